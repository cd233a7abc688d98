import PyProof.Rows.All
import Wide.All
import OpenK.AllK
import Wide.FinOn
import HandS.TupAny
import HandS.TupMul
import HandS.Call
import HandS.List
import HandS.ForMost
import HandS.Walk
import HandS.Exc
import HandS.ExcOwn
import HandS.TryOnly
import HandS.WordsExc
import HandS.IsInst
import HandS.ExcValue
import HandS.RaiseMore
import HandS.Replace
import HandS.StrMore
import HandS.AnyAll
import HandS.Lambda
import HandS.Wide
import HandS.More
import PyProof.StrWalks
import HandS.Zip0
import HandS.Remove
import HandS.SetFor
import HandS.EndOwn
import PyProof.SliceStr2
import PyProof.Rows.StrStep
import HandS.WideBits
import HandS.ExcIs
import HandS.Defaults
import KE.DataFind
import HandS.TupLe
import HandS.Codes
import HandS.TryMany
import HandS.Conv
import HandS.Gcd
import HandS.Style
import KE.LtData
import HandS.Zip
import HandS.Rev
import PyProof.Draws
import KE.SortKeyHeap
import HandS.SortKw
import KE.DataEq
import HandS.RevTup
import HandS.Dict
import KE.KIndexOf
import KE.DataMinMax
import KE.GoesNew
import KE.GoesMore
import PySem.Challenge.RW_humpcodes_k39_whole_blocks_of_products
set_option Elab.async false
set_option linter.all false
set_option maxRecDepth 100000
set_option maxHeartbeats 8000000
namespace DL
open PySem PySem.Spec PyProof.Rows L2
/-! ### tuples whose objects are known to be plain -/
def PlT (o : Obj) : Prop := o.cls = .type "tuple" ∧ o.dict = none
section
variable {X : Cx}
theorem call_tupleZ : CallR X (.type "tuple") (fun xs H Q => ∃ p ys, xs = [.ref p] ∧ SqL X.K H p ys ∧ ∀ l o, H l = none → PlT o → Q (.ref l) (upd H l (.frz o (.tup ys)))) := by
  intro pins s σ H xs us Q I r ⟨p, ys, e, hq, q⟩
  subst e
  obtain ⟨u, rfl, rx⟩ := vals1 r
  cases rx
  obtain ⟨its, rv, pl, hz⟩ := I.list hq
  have hlen := rv.length
  refine call_tuple_list pl.isList (fun h' kp => ?_) (by simp only [List.size_toArray] <;> omega)
  have I1 : Inv X pins σ H { s with heap := h' } := I.kept (t' := s.toks) kp
  have nw : (h'.push { cls := .type "tuple", data := .seq its.toArray }).get? h'.objs.size = some { cls := .type "tuple", data := .seq its.toArray } := Heap.get?_push_size _ rfl
  have I2 := I1.laid (t' := s.toks) (o := .frz { cls := .type "tuple", data := .seq its.toArray } (.tup ys)) (fun b o e => Heap.get?_push_of_some _ e) (Nat.le_refl _) (show ObjOk X.prog X.w _ _ _ (.frz _ _) from ⟨nw, hz, its, rv, IsTup.new _ _⟩)
  exact ⟨.ref h'.objs.size, _, I2, rfl, q _ _ (I1.hok.fresh (Nat.le_refl _)) ⟨rfl, rfl⟩⟩
theorem laidZ {pins : List (Addr × Obj)} {s : Shared} {σ : L2.St} {H : Hp} {h' : Heap} {its : List Value} {xs : List V} {t' : Nat} (I : Inv X pins σ H s) (k : ∀ b u, s.heap.get? b = some u → h'.get? b = some u) (hp : s.heap.objs.size ≤ h'.objs.size) (rv : Vals xs its) (hz : xs.length ≤ sizeLine) :
    Inv X pins σ (upd H h'.objs.size (.frz { cls := .type "tuple", data := .seq its.toArray } (.tup xs))) { s with heap := h'.push { cls := .type "tuple", data := .seq its.toArray }, toks := t' } := by
  have nw : (h'.push { cls := .type "tuple", data := .seq its.toArray }).get? h'.objs.size = some { cls := .type "tuple", data := .seq its.toArray } := Heap.get?_push_size _ rfl
  exact I.laid (t' := t') (fun b o e => Heap.get?_push_of_some _ (k b o e)) hp (show ObjOk X.prog X.w _ _ _ (.frz _ _) from ⟨nw, hz, its, rv, IsTup.new _ _⟩)
/-- a display -/
def tTupZ (t : TA) : TE := fun σ H Q => t σ H fun xs H1 => xs.length ≤ sizeLine ∧ ∀ p o, H1 p = none → PlT o → Q (.ref p) (upd H1 p (.frz o (.tup xs)))
theorem pe_tupZ {es : List Expr} {pos : Pos} {t : TA} {x1} (h : PA X es t) : PE X (.Tuple es x1 pos) (tTupZ t) := by
  refine ⟨fun pins s σ H Q I hq => ?_⟩
  refine wpAny_Tuple_spliced (thn (h.run pos pins s σ H _ I hq) fun us s1 ⟨xs, H1, I1, r, z, q⟩ => ⟨by rw [← r.length]; exact z, ?_⟩)
  exact ⟨.ref s1.heap.objs.size, _, laidZ (t' := s1.toks) I1 (fun _ _ e => e) (Nat.le_refl _) r z, rfl, q _ _ (I1.hok.fresh (Nat.le_refl _)) ⟨rfl, rfl⟩⟩
/-- x + y -/
def rCatZ (K : PySem.W.Frag) : R2 := fun x y H Q => ∃ a b xs ys, x = .ref a ∧ y = .ref b ∧ SqT K H a xs ∧ SqT K H b ys ∧ xs.length + ys.length ≤ sizeLine ∧
  (xs = [] → Q (.ref b) H) ∧ (xs ≠ [] → ys = [] → Q (.ref a) H) ∧ (xs ≠ [] → ys ≠ [] → ∀ p o, H p = none → PlT o → Q (.ref p) (upd H p (.frz o (.tup (xs ++ ys)))))
theorem op_catZ : OpR X (binaryOp .Add) (rCatZ X.K) := by
  intro pins s σ H x y v u Q I rx ry ⟨a, b, xs, ys, ex, ey, ha, hb, hz, q0, q1, q2⟩
  subst ex ey
  cases rx
  cases ry
  obtain ⟨its, r1, p1, _⟩ := I.tuple ha
  obtain ⟨its2, r2, p2, _⟩ := I.tuple hb
  by_cases hx : xs = []
  · subst hx
    cases r1
    exact cat_tup0 p1 p2 ⟨.ref b, H, I, rfl, q0 rfl⟩
  · refine HT.cat_tup p1 p2 (fun z => hx (r1.nil_iff.mp z)) (fun z => ⟨.ref a, H, I, rfl, q1 hx (r2.nil_iff.mp z)⟩) (fun z => ?_) (by rw [← r1.length, ← r2.length]; exact hz)
    exact ⟨.ref s.heap.objs.size, _, laidZ (t' := s.toks) I (fun _ _ e => e) (Nat.le_refl _) (r1.append r2) (by rw [List.length_append]; exact hz), rfl, q2 hx (fun w => z (r2.nil_iff.mpr w)) _ _ (I.hok.fresh (Nat.le_refl _)) ⟨rfl, rfl⟩⟩
/-- t[lo:hi] -/
def rSlZ (K : PySem.W.Frag) : V → Option Int → Option Int → Hp → VK → Prop := fun x lo hi H Q => ∃ a xs, x = .ref a ∧ SqT K H a xs ∧
  (HT.sIx xs.length 0 lo = 0 ∧ HT.sIx xs.length xs.length hi = xs.length → Q (.ref a) H) ∧ (¬ (HT.sIx xs.length 0 lo = 0 ∧ HT.sIx xs.length xs.length hi = xs.length) → ∀ p o, H p = none → PlT o → Q (.ref p) (upd H p (.frz o (.tup (cutV xs lo hi)))))
theorem sl_tupZ : SlR X (rSlZ X.K) := by
  intro pins s σ H x v vl vu lo hi sl Q I rx hs pl pu ⟨a, xs, ex, hx, q1, q2⟩
  by_cases hw : HT.sIx xs.length 0 lo = 0 ∧ HT.sIx xs.length xs.length hi = xs.length
  · exact sl_tupA pins s σ H x v vl vu lo hi sl Q I rx hs pl pu ⟨a, xs, ex, hx, q1, fun z => absurd hw z⟩
  · subst ex
    cases rx
    obtain ⟨its, r, ht, hz⟩ := I.tuple hx
    have hlen : its.toArray.size = xs.length := by rw [List.size_toArray]; exact r.length.symm
    refine ⟨"tuple", _, PyProof.Rows.slot_tuple_getitem.lookup, ht.typeIs, ?_⟩
    refine HT.getItem_tuple_cut ht hs pl pu (by rw [hlen]; exact hw) ?_ (by rw [hlen]; exact hz)
    rw [hlen]
    exact ⟨.ref s.heap.objs.size, _, laidZ (t' := s.toks) I (fun _ _ e => e) (Nat.le_refl _) ((r.drop (HT.sIx xs.length 0 lo)).take (HT.sIx xs.length xs.length hi - HT.sIx xs.length 0 lo)) (Nat.le_trans (cutV_length xs lo hi) hz), rfl, q2 hw _ _ (I.hok.fresh (Nat.le_refl _)) ⟨rfl, rfl⟩⟩
/-- t * k -/
def rRepZ (K : PySem.W.Frag) : R2 := fun x y H Q => ∃ l k xs, x = .ref l ∧ y = .int k ∧ SqT K H l xs ∧ xs ≠ [] ∧ 2 ≤ k ∧ k ≤ 1000 ∧ xs.length ≤ 1000 ∧ ∀ p o, H p = none → PlT o → Q (.ref p) (upd H p (.frz o (.tup (List.replicate k.toNat xs).flatten)))
theorem op_repZ : OpR X (binaryOp .Mult) (rRepZ X.K) := by
  intro pins s σ H x y v u Q I rx ry ⟨l, k, xs, ex, ey, hT, hne, h1, h2, hz, q⟩
  subst ex ey
  cases rx
  obtain ⟨t, rfl⟩ := ry
  obtain ⟨its, r, ⟨⟨cls, dd, data, sl⟩, ho, hc, n, hd⟩, _⟩ := I.tuple hT
  simp only at hc hd
  subst hc hd
  have hle : its.length = xs.length := r.length.symm
  have hn : its ≠ [] := fun e => hne (List.eq_nil_of_length_eq_zero (by rw [← hle, e]; rfl))
  have hi : its.toArray.isEmpty = false := by
    cases its with
    | nil => exact absurd rfl hn
    | cons a b => rfl
  have hsz0 : its.toArray.size = xs.length := by rw [List.size_toArray, hle]
  have hm : ((its.toArray.size : Nat) : Int) * k ≤ 1000000 := by
    rw [hsz0]
    have a1 : ((xs.length : Nat) : Int) * k ≤ 1000 * k := Int.mul_le_mul_of_nonneg_right (by omega) (by omega)
    omega
  have small : k.toNat * xs.length ≤ 1000 * 1000 := Nat.mul_le_mul (by omega) hz
  have flen : (List.replicate k.toNat its).flatten.length ≤ sizeLine := by
    rw [PyProof.Rows.lm_len_rep_flat, hle, sizeLine_eq]; omega
  have flen2 : (List.replicate k.toNat xs).flatten.length ≤ sizeLine := by
    rw [PyProof.Rows.lm_len_rep_flat, sizeLine_eq]; omega
  refine wpAny_binaryOp_repeat_ref (T := "tuple") (U := "int") (by decide) ⟨_, ho, rfl⟩ (fun s' => typeIs_int s' k t) noFill_tuple_mul F.fills_int_mul F.slot_int_rmul repeat_tuple F.slot_int_index.lookup
    (call_meets F.slot_int_rmul (typeIs_int s k t) F.entry_int_rmul (F.args_int_rmul_2 _ _) (int_rmul_tuple k t l its.toArray n dd sl)
      ⟨ho, rfl, ⟨_, ho, rfl⟩, call_meets F.slot_tuple_mul ⟨_, ho, rfl⟩ F.entry_tuple_mul (F.args_tuple_mul_2 _ _) (tuple_mulW l its.toArray n dd sl k t ?_ ?_ ?_ (by omega) ?_ (by rw [size_rep, List.size_toArray]; exact flen)) ⟨ho, ?_⟩⟩)
  · rw [decide_eq_false (by omega), decide_eq_false (by omega)]; rfl
  · rw [hi, Bool.false_or]; exact beq_eq_false_iff_ne.mpr (by omega)
  · rw [hi, Bool.or_false]; exact decide_eq_false (by omega)
  · unfold Builtin.Tuple.tupleTooMany
    rw [sizeLine_eq]
    exact decide_eq_false (by omega)
  · rw [size_rep]
    exact ⟨.ref s.heap.objs.size, _, laidZ (t' := s.toks) I (fun _ _ e => e) (Nat.le_refl _) (r.rep k.toNat) flen2, rfl, q _ _ (I.hok.fresh (Nat.le_refl _)) ⟨rfl, rfl⟩⟩
end
end DL

set_option maxRecDepth 100000
set_option maxHeartbeats 8000000
/-! A layer over HandS: what a piece of Python does, as a function of plain data. -/
namespace DL
open PySem PySem.Spec PyProof.Rows L2

/-! ### plain data in a heap that only grows -/
mutual
inductive Dq (F : Hp) : V → PyData → Prop
  | non : Dq F .non .none
  | bl (b : Bool) : Dq F (.bl b) (.bool b)
  | int (i : Int) : Dq F (.int i) (.int i)
  | str (x : Str) : Dq F (.str x) (.str x)
  | lst {a : Addr} {xs : List V} {ds : List PyData} : F a = some (.lst xs) → xs.length ≤ sizeLine → DqAll F xs ds → Dq F (.ref a) (.list ds)
  | tup {a : Addr} {o : Obj} {xs : List V} {ds : List PyData} : F a = some (.frz o (.tup xs)) → PlT o → xs.length ≤ sizeLine → DqAll F xs ds → Dq F (.ref a) (.tuple ds)
inductive DqAll (F : Hp) : List V → List PyData → Prop
  | nil : DqAll F [] []
  | cons {v : V} {vs : List V} {d : PyData} {ds : List PyData} : Dq F v d → DqAll F vs ds → DqAll F (v :: vs) (d :: ds)
end

/-- the pairs of a dict with texts as keys -/
inductive DqKV (F : Hp) : List (Key × V) → List (Str × PyData) → Prop
  | nil : DqKV F [] []
  | cons {k : Str} {v : V} {d : PyData} {vs : List (Key × V)} {ds : List (Str × PyData)} : Dq F v d → DqKV F vs ds → DqKV F ((.inr k, v) :: vs) ((k, d) :: ds)
mutual
theorem Dq.mono {F F' : Hp} (s : Same F F') : ∀ {v : V} {d : PyData}, Dq F v d → Dq F' v d
  | _, _, .non => .non
  | _, _, .bl b => .bl b
  | _, _, .int i => .int i
  | _, _, .str x => .str x
  | _, _, .lst e z r => .lst (s _ _ e) z (DqAll.mono s r)
  | _, _, .tup e p z r => .tup (s _ _ e) p z (DqAll.mono s r)
theorem DqAll.mono {F F' : Hp} (s : Same F F') : ∀ {vs : List V} {ds : List PyData}, DqAll F vs ds → DqAll F' vs ds
  | _, _, .nil => .nil
  | _, _, .cons r t => .cons (Dq.mono s r) (DqAll.mono s t)
end
mutual
theorem Dq.dp {K : PySem.W.Frag} {F H : Hp} (s : Same F H) : ∀ {v : V} {d : PyData}, Dq F v d → Dp K H v d
  | _, _, .non => .non
  | _, _, .bl b => .bl b
  | _, _, .int i => .int i
  | _, _, .str x => .str x
  | _, _, .lst e _ r => .lst (SqL.of (s _ _ e)) (DqAll.dp s r)
  | _, _, .tup e _ _ r => .tup (.inl (.inr ⟨_, s _ _ e⟩)) (DqAll.dp s r)
theorem DqAll.dp {K : PySem.W.Frag} {F H : Hp} (s : Same F H) : ∀ {vs : List V} {ds : List PyData}, DqAll F vs ds → DpAll K H vs ds
  | _, _, .nil => .nil
  | _, _, .cons r t => .cons (Dq.dp s r) (DqAll.dp s t)
end
theorem SqT_frz {K : PySem.W.Frag} {F H : Hp} {a : Addr} {xs : List V} (e : ∃ o, F a = some (.frz o (.tup xs)) ∧ PlT o) (s : Same F H) : SqT K H a xs := e.elim fun o e => .inl (.inr ⟨o, s _ _ e.1⟩)
theorem Dq.tupE {F : Hp} {a : Addr} {xs : List V} {ds : List PyData} (e : ∃ o, F a = some (.frz o (.tup xs)) ∧ PlT o) (z : xs.length ≤ sizeLine) (r : DqAll F xs ds) : Dq F (.ref a) (.tuple ds) := e.elim fun _ e => .tup e.1 e.2 z r
theorem DqKV.mono {F F' : Hp} (s : Same F F') {vs : List (Key × V)} {ds : List (Str × PyData)} (r : DqKV F vs ds) : DqKV F' vs ds := by
  induction r with
  | nil => exact .nil
  | cons a _ ih => exact .cons (a.mono s) ih
theorem DqAll.length {F : Hp} : ∀ {vs : List V} {ds : List PyData}, DqAll F vs ds → vs.length = ds.length
  | _, _, .nil => rfl
  | _, _, .cons _ t => congrArg (· + 1) t.length
theorem DqAll.get {F : Hp} : ∀ {vs : List V} {ds : List PyData} {i : Nat} {v : V}, DqAll F vs ds → vs[i]? = some v → ∃ d, ds[i]? = some d ∧ Dq F v d
  | _, _, _, _, .nil, h => by simp at h
  | _, _, 0, v, .cons r _, h => ⟨_, rfl, by simp at h; exact h ▸ r⟩
  | _, _, i + 1, v, .cons _ t, h => DqAll.get (i := i) t (by simpa using h)
theorem DqAll.get' {F : Hp} : ∀ {vs : List V} {ds : List PyData} {i : Nat} {d : PyData}, DqAll F vs ds → ds[i]? = some d → ∃ v, vs[i]? = some v ∧ Dq F v d
  | _, _, _, _, .nil, h => by simp at h
  | _, _, 0, d, .cons r _, h => ⟨_, rfl, by simp at h; exact h ▸ r⟩
  | _, _, i + 1, d, .cons _ t, h => DqAll.get' (i := i) t (by simpa using h)
theorem DqAll.append {F : Hp} : ∀ {vs : List V} {ds : List PyData} {ws : List V} {es : List PyData}, DqAll F vs ds → DqAll F ws es → DqAll F (vs ++ ws) (ds ++ es)
  | _, _, _, _, .nil, s => s
  | _, _, _, _, .cons r t, s => .cons r (t.append s)
theorem DqAll.take {F : Hp} : ∀ {vs : List V} {ds : List PyData} (n : Nat), DqAll F vs ds → DqAll F (vs.take n) (ds.take n)
  | _, _, 0, _ => .nil
  | _, _, _ + 1, .nil => .nil
  | _, _, n + 1, .cons r t => .cons r (DqAll.take n t)
theorem DqAll.drop {F : Hp} : ∀ {vs : List V} {ds : List PyData} (n : Nat), DqAll F vs ds → DqAll F (vs.drop n) (ds.drop n)
  | _, _, 0, r => r
  | _, _, _ + 1, .nil => .nil
  | _, _, n + 1, .cons _ t => DqAll.drop n t
theorem DqAll.set {F : Hp} {v : V} {d : PyData} (r : Dq F v d) : ∀ {vs : List V} {ds : List PyData} (n : Nat), DqAll F vs ds → DqAll F (vs.set n v) (ds.set n d)
  | _, _, _, .nil => .nil
  | _, _, 0, .cons _ t => .cons r t
  | _, _, n + 1, .cons q t => .cons q (DqAll.set r n t)
theorem DqAll.ints {F : Hp} : ∀ (l : List Int), DqAll F (l.map V.int) (l.map PyData.int)
  | [] => .nil
  | i :: l => .cons (.int i) (DqAll.ints l)

/-! ### errors -/
/-- an error of the class cls at a -/
def ExIn (h : Heap) (cls : Value) (a : Addr) : Prop := ∃ (oe : Obj) (vs : Array Value), h.get? a = some oe ∧ Zc cls none oe ∧ oe.data = .fields vs
def ErO (cls : Value) (a : Addr) : HO := .ext fun h => ExIn h cls a
theorem erO_ok {P : Program} {w : World} {H : Hp} {h : Heap} {a : Addr} {cls : Value} {oe : Obj} {vs : Array Value} (e : h.get? a = some oe) (z : Zc cls none oe) (d : oe.data = .fields vs) : ObjOk P w H h a (ErO cls a) :=
  ⟨⟨oe, vs, e, z, d⟩, ⟨oe, e⟩, fun _ _ ⟨o, v, q, r⟩ k => ⟨o, v, k o q, r⟩⟩

/-! ### the world -/
/-- the code objects' tables; of those whose code objects are known, the name that these bear -/
structure Tb where
  l : List Addr
  q : Addr → Option Str
/-- F: what will never change; pa: where the pen lies -/
structure Wd where
  F : Hp
  pa : Option Addr
  tb : Tb
def NotTab (o : HO) : Prop := ∀ ps, o ≠ .tbl ps
theorem NotTab.lst {xs : List V} : NotTab (.lst xs) := fun _ z => nomatch z
theorem NotTab.tup {xs : List V} : NotTab (.tup xs) := fun _ z => nomatch z
structure PenS where
  cells : List Int
  pos : Int
  held : Int
abbrev Pn := Option PenS

/-- values: plain data, the pen, the script, a caught error of an own class -/
inductive Dv where
  | val (d : PyData)
  | pen
  | scr (ns : List Int)
  | err (n : Str)
  | ppr (a : Dv)
  | dct (kvs : List (Str × PyData))
  | fn (n : Str)
inductive Sv where
  | emp
  | val (d : Dv)
  | own (ds : List PyData)

/-- a step of the world -/
structure Step (W : Wd) (H : Hp) (W' : Wd) (H' : Hp) : Prop where
  sub : Same W.F W'.F
  grow : ∀ a o, W'.F a = some o → W.F a = some o ∨ H a = none
  keep : ∀ a o, H a = some o → W.pa ≠ some a → NotTab o → H' a = some o
  there : ∀ a, H' a = none → H a = none
  pa : ∀ a, W.pa = some a → W'.pa = some a
  newpa : ∀ a, W'.pa = some a → W.pa = some a ∨ H a = none
  tb : W'.tb = W.tb
theorem Step.refl (W : Wd) (H : Hp) : Step W H W H := ⟨Same.refl _, fun _ _ e => .inl e, fun _ _ e _ _ => e, fun _ e => e, fun _ e => e, fun _ e => .inl e, rfl⟩
theorem Step.trans {W W1 W2 : Wd} {H H1 H2 : Hp} (a : Step W H W1 H1) (b : Step W1 H1 W2 H2) : Step W H W2 H2 where
  sub := a.sub.trans b.sub
  grow := fun x o e => by
    rcases b.grow x o e with e | e
    · exact a.grow x o e
    · exact .inr (a.there x e)
  keep := fun x o e n k => b.keep x o (a.keep x o e n k) (fun z => by
    rcases a.newpa x z with q | q
    · exact n q
    · rw [e] at q; cases q) k
  there := fun x e => a.there x (b.there x e)
  pa := fun x e => b.pa x (a.pa x e)
  newpa := fun x e => by
    rcases b.newpa x e with e | e
    · exact a.newpa x e
    · exact .inr (a.there x e)
  tb := b.tb.trans a.tb

/-- the module: K the written part, mg its names -/
structure Md where
  K : PySem.W.Frag
  mg : Str → Option Value
  tb : Tb

section
variable (M : Md)
def PenO (W : Wd) (H : Hp) : Pn → Prop
  | none => W.pa = none
  | some p => ∃ a ca, W.pa = some a ∧ W.F a = none ∧ H a = some (.lst [.ref ca, .int p.pos, .int p.held]) ∧ W.F ca = some (.lst (p.cells.map V.int)) ∧ p.cells.length ≤ sizeLine
/-- the code objects' tables -/
def TabG (F H : Hp) (t : Tb) (P : Addr) : Prop := GxR.TabG H P ∧ ∀ q, t.q P = some q → ∀ ps, H P = some (.tbl ps) → ∀ (pos : Pos) (cv : Value), codeAmong pos ps.toList = some cv → ∃ c, cv = .ref c ∧ F c = some (LamX.CodeO c q)
structure PenOk (W : Wd) (H : Hp) (π : Pn) : Prop where
  pen : PenO W H π
  tab : ∀ P ∈ W.tb.l, W.F P = none ∧ TabG W.F H W.tb P
theorem PenOk.npa {W : Wd} {H : Hp} {π : Pn} (h : PenOk W H π) {p : Addr} (n : H p = none) : W.pa ≠ some p := fun z => by
  cases π with
  | none => have q : W.pa = none := h.pen; rw [q] at z; cases z
  | some pe =>
    obtain ⟨b, cb, k1, _, k3, _⟩ := h.pen
    rw [k1] at z; cases z
    rw [k3] at n; cases n
inductive Rv (W : Wd) : V → Dv → Prop
  | val {v : V} {d : PyData} : Dq W.F v d → Rv W v (.val d)
  | pen {a : Addr} : W.pa = some a → Rv W (.ref a) .pen
  | scr {a : Addr} {ns : List Int} : SqL M.K W.F a (ns.map V.int) → ns.length ≤ 63 → Rv W (.ref a) (.scr ns)
  | err {a C : Addr} {n : Str} : M.mg n = some (.ref C) → W.F a = some (ErO (.ref C) a) → Rv W (.ref a) (.err n)
  | dct {a : Addr} {vs : List (Key × V)} {kvs : List (Str × PyData)} : W.F a = some (.dK vs) → kvs.length ≤ sizeLine → DqKV W.F vs kvs → Rv W (.ref a) (.dct kvs)
  | fn {f : Addr} {n : Str} : M.mg n = some (.ref f) → Rv W (.ref f) (.fn n)
inductive RvL (W : Wd) : List V → List Dv → Prop
  | nil : RvL W [] []
  | cons {v : V} {vs : List V} {d : Dv} {ds : List Dv} : Rv M W v d → RvL W vs ds → RvL W (v :: vs) (d :: ds)
/-- a slot -/
inductive Sl (W : Wd) (H : Hp) : Sv → Option V → Prop
  | emp {o : Option V} : Sl W H .emp o
  | val {v : V} {d : Dv} : Rv M W v d → Sl W H (.val d) (some v)
  | own {a : Addr} {xs : List V} {ds : List PyData} : W.F a = none → W.pa ≠ some a → H a = some (.lst xs) → xs.length ≤ sizeLine → DqAll W.F xs ds → Sl W H (.own ds) (some (.ref a))
/-- the state of a frame -/
structure StE (W : Wd) (H : Hp) (ρ : List Sv) (π : Pn) (σ : L2.St) : Prop where
  same : Same W.F H
  pen : PenOk W H π
  tbe : W.tb = M.tb
  len : ρ.length = σ.length
  sl : ∀ (i : Nat) (s : Sv), ρ[i]? = some s → ∃ o, σ[i]? = some o ∧ Sl M W H s o
  apart : ∀ (i j : Nat) (a : Addr) (ds es : List PyData), ρ[i]? = some (.own ds) → ρ[j]? = some (.own es) → σ[i]? = some (some (.ref a)) → σ[j]? = some (some (.ref a)) → i = j
end
section
variable {M : Md} {W W' : Wd} {H H' : Hp} {ρ : List Sv} {π π' : Pn} {σ : L2.St}
theorem Rv.step {v : V} {d : Dv} (r : Rv M W v d) (s : Step W H W' H') : Rv M W' v d := by
  cases r with
  | val r => exact .val (r.mono s.sub)
  | pen e => exact .pen (s.pa _ e)
  | scr e z => exact .scr (s.sub.seq e) z
  | err e z => exact .err e (s.sub _ _ z)
  | dct e z q => exact .dct (s.sub _ _ e) z (q.mono s.sub)
  | fn e => exact .fn e
theorem RvL.step {vs : List V} {ds : List Dv} (r : RvL M W vs ds) (s : Step W H W' H') : RvL M W' vs ds := by
  induction r with
  | nil => exact .nil
  | cons r t ih => exact .cons (r.step s) ih
theorem RvL.length {vs : List V} {ds : List Dv} (r : RvL M W vs ds) : vs.length = ds.length := by
  induction r with
  | nil => rfl
  | cons r t ih => simp [ih]
theorem Sl.step {s : Sv} {o : Option V} (r : Sl M W H s o) (t : Step W H W' H') : Sl M W' H' s o := by
  cases r with
  | emp => exact .emp
  | val r => exact .val (r.step t)
  | @own a xs ds h1 h2 h3 h4 h5 =>
    refine .own ?_ ?_ (t.keep _ _ h3 h2 .lst) h4 (h5.mono t.sub)
    · cases q : W'.F a with
      | none => rfl
      | some o' =>
        rcases t.grow _ _ q with z | z
        · rw [h1] at z; cases z
        · rw [h3] at z; cases z
    · intro q
      rcases t.newpa _ q with z | z
      · exact h2 z
      · rw [h3] at z; cases z
theorem StE.step (st : StE M W H ρ π σ) (t : Step W H W' H') (p : PenOk W' H' π') (sm : Same W'.F H') : StE M W' H' ρ π' σ :=
  ⟨sm, p, t.tb.trans st.tbe, st.len, fun i s e => let ⟨o, h1, h2⟩ := st.sl i s e; ⟨o, h1, h2.step t⟩, st.apart⟩
theorem tab_ne {F H : Hp} {t : Tb} {P p : Addr} {o : HO} (h : TabG F H t P) (e : H p = some o) (n : NotTab o) : P ≠ p := fun z => by
  obtain ⟨⟨ps, q, _⟩, _⟩ := h
  rw [z, e] at q
  exact n ps (Option.some.inj q)
theorem tab_ne' {F H : Hp} {t : Tb} {P p : Addr} (h : TabG F H t P) (e : H p = none) : P ≠ p := fun z => by
  obtain ⟨⟨ps, q, _⟩, _⟩ := h
  rw [z, e] at q; cases q
theorem TabG.upd {F H : Hp} {t : Tb} {P p : Addr} {o : HO} (h : TabG F H t P) (n : P ≠ p) : TabG F (upd H p o) t P := by
  obtain ⟨⟨ps, q, r⟩, k⟩ := h
  exact ⟨⟨ps, by rw [upd_ne n]; exact q, r⟩, fun u hu xs hx => k u hu xs (by rw [upd_ne n] at hx; exact hx)⟩
theorem TabG.mono {F F' H : Hp} {t : Tb} {P : Addr} (h : TabG F H t P) (s : Same F F') : TabG F' H t P :=
  ⟨h.1, fun u hu xs hx pos cv hc => let ⟨c, e1, e2⟩ := h.2 u hu xs hx pos cv hc; ⟨c, e1, s _ _ e2⟩⟩
theorem PenOk.same {o : HO} {p : Addr} (h : PenOk W H π) (n : H p = none) (nf : W.F p = none) : PenOk ⟨upd W.F p o, W.pa, W.tb⟩ (upd H p o) π ∧ PenOk W (upd H p o) π := by
  have t1 : ∀ P ∈ W.tb.l, W.F P = none ∧ TabG W.F (upd H p o) W.tb P := fun P hP => ⟨(h.tab P hP).1, (h.tab P hP).2.upd (tab_ne' (h.tab P hP).2 n)⟩
  have t2 : ∀ P ∈ W.tb.l, upd W.F p o P = none ∧ TabG (upd W.F p o) (upd H p o) W.tb P := fun P hP => ⟨by rw [upd_ne (tab_ne' (h.tab P hP).2 n)]; exact (h.tab P hP).1, (t1 P hP).2.mono fun a u q => by rw [upd_ne (ne_of_none q nf)]; exact q⟩
  cases π with
  | none => exact ⟨⟨h.pen, t2⟩, ⟨h.pen, t1⟩⟩
  | some q =>
    obtain ⟨a, ca, h1, h2, h3, h4, h5⟩ := h.pen
    have ha : a ≠ p := ne_of_none h3 n
    have hc : ca ≠ p := ne_of_none h4 nf
    exact ⟨⟨⟨a, ca, h1, by show L2.upd W.F p o a = none; rw [upd_ne ha]; exact h2, by rw [upd_ne ha]; exact h3, by show L2.upd W.F p o ca = _; rw [upd_ne hc]; exact h4, h5⟩, t2⟩, ⟨⟨a, ca, h1, h2, by rw [upd_ne ha]; exact h3, h4, h5⟩, t1⟩⟩
/-- a new object that is to stay -/
theorem fresh {o : HO} {p : Addr} (sm : Same W.F H) (pn : PenOk W H π) (n : H p = none) : Step W H ⟨upd W.F p o, W.pa, W.tb⟩ (upd H p o) ∧ PenOk ⟨upd W.F p o, W.pa, W.tb⟩ (upd H p o) π ∧ Same (upd W.F p o) (upd H p o) := by
  have nf : W.F p = none := sm.free n
  refine ⟨⟨fun a u e => ?_, fun a u e => ?_, fun a u e _ _ => ?_, fun a e => ?_, fun _ e => e, fun _ e => .inl e, rfl⟩, (pn.same n nf).1, fun a u e => ?_⟩
  · show upd W.F p o a = _
    rw [upd_ne (ne_of_none e nf)]; exact e
  · have e : upd W.F p o a = some u := e
    by_cases h : a = p
    · subst h; exact .inr n
    · rw [upd_ne h] at e; exact .inl e
  · rw [upd_ne (ne_of_none e n)]; exact e
  · by_cases h : a = p
    · subst h; exact n
    · rw [upd_ne h] at e; exact e
  · by_cases h : a = p
    · subst h; rw [upd_same] at e ⊢; exact e
    · rw [upd_ne h] at e ⊢; exact sm a u e
/-- a new object that is still held by one -/
theorem freshOwn {o : HO} {p : Addr} (sm : Same W.F H) (pn : PenOk W H π) (n : H p = none) : Step W H W (upd H p o) ∧ PenOk W (upd H p o) π ∧ Same W.F (upd H p o) := by
  have nf : W.F p = none := sm.free n
  refine ⟨⟨Same.refl _, fun _ _ e => .inl e, fun a u e _ _ => ?_, fun a e => ?_, fun _ e => e, fun _ e => .inl e, rfl⟩, (pn.same n nf).2, fun a u e => ?_⟩
  · rw [upd_ne (ne_of_none e n)]; exact e
  · by_cases h : a = p
    · subst h; exact n
    · rw [upd_ne h] at e; exact e
  · rw [upd_ne (ne_of_none e nf)]; exact sm a u e
/-- a held object is let go: it stays from now on -/
theorem letgo {o : HO} {p : Addr} (sm : Same W.F H) (pn : PenOk W H π) (e : H p = some o) (nt : NotTab o) (nf : W.F p = none) (np : W.pa ≠ some p) {H0 : Hp} {W0 : Wd} (t : Step W0 H0 W H) (n0 : H0 p = none) :
    Step W0 H0 ⟨upd W.F p o, W.pa, W.tb⟩ H ∧ PenOk ⟨upd W.F p o, W.pa, W.tb⟩ H π ∧ Same (upd W.F p o) H ∧ Same W.F (upd W.F p o) := by
  have ss : Same W.F (upd W.F p o) := fun a u q => by rw [upd_ne (ne_of_none q nf)]; exact q
  refine ⟨⟨t.sub.trans ss, fun a u q => ?_, t.keep, t.there, t.pa, t.newpa, t.tb⟩, ⟨?_, fun P hP => ⟨?_, (pn.tab P hP).2.mono ss⟩⟩, fun a u q => ?_, ss⟩
  · have q : upd W.F p o a = some u := q
    by_cases h : a = p
    · subst h; exact .inr n0
    · rw [upd_ne h] at q; exact t.grow a u q
  · cases π with
    | none => exact pn.pen
    | some q =>
      obtain ⟨a, ca, h1, h2, h3, h4, h5⟩ := pn.pen
      have ha : a ≠ p := fun z => np (z ▸ h1)
      exact ⟨a, ca, h1, by show upd W.F p o a = none; rw [upd_ne ha]; exact h2, h3, ss _ _ h4, h5⟩
  · show upd W.F p o P = none
    rw [upd_ne (tab_ne (pn.tab P hP).2 e nt)]; exact (pn.tab P hP).1
  · by_cases h : a = p
    · subst h; rw [upd_same] at q; rw [← q]; exact e
    · rw [upd_ne h] at q; exact sm a u q
end
end DL

set_option maxRecDepth 100000
set_option maxHeartbeats 8000000
namespace DL
open PySem PySem.Spec PyProof.Rows L2

/-! ### what a piece of the program comes to -/
inductive Res (α : Type) where
  | ok (a : α) (π : Pn)
  | exn (n : Str) (π : Pn)
  | bad
def Res.bind {α β : Type} (r : Res α) (k : α → Pn → Res β) : Res β := match r with
  | .ok a π => k a π
  | .exn n π => .exn n π
  | .bad => .bad
abbrev SE (α : Type) := List Sv → Pn → Res α

def Post (M : Md) {α β : Type} (R : Wd → β → α → Prop) (B : WX) (W : Wd) (H : Hp) (σ : L2.St) (Q : β → Hp → Prop) : Res α → Prop
  | .ok a π' => ∀ W' H' v, Step W H W' H' → PenOk W' H' π' → Same W'.F H' → R W' v a → Q v H'
  | .exn n π' => ∀ W' H' C, Step W H W' H' → PenOk W' H' π' → Same W'.F H' → M.mg n = some (.ref C) → B (.ref C) none σ H'
  | .bad => False
section
variable {M : Md} {α β γ δ : Type} {R : Wd → β → α → Prop} {R' : Wd → δ → γ → Prop} {B : WX} {W W1 : Wd} {H H1 : Hp} {σ : L2.St}
theorem Post.step {Q : β → Hp → Prop} {r : Res α} (p : Post M R B W H σ Q r) (s : Step W H W1 H1) : Post M R B W1 H1 σ Q r := by
  cases r with
  | ok a π => exact fun W' H' v t pn sm rv => p W' H' v (s.trans t) pn sm rv
  | exn n π => exact fun W' H' C t pn sm e => p W' H' C (s.trans t) pn sm e
  | bad => exact p
theorem Post.bind {Q : δ → Hp → Prop} {Q1 : β → Hp → Prop} {r : Res α} {k : α → Pn → Res γ} (p : Post M R' B W H σ Q (r.bind k))
    (h : ∀ a π1 W1 H1 v, Step W H W1 H1 → PenOk W1 H1 π1 → Same W1.F H1 → R W1 v a → Post M R' B W1 H1 σ Q (k a π1) → Q1 v H1) : Post M R B W H σ Q1 r := by
  cases r with
  | ok a π => exact fun W' H' v t pn sm rv => h a π W' H' v t pn sm rv (Post.step (r := k a π) p t)
  | exn n π => exact p
  | bad => exact p
theorem Post.imp {Q Q1 : β → Hp → Prop} {r : Res α} (p : Post M R B W H σ Q r) (h : ∀ a π' W' H' v, Step W H W' H' → PenOk W' H' π' → Same W'.F H' → R W' v a → Q v H' → Q1 v H') : Post M R B W H σ Q1 r := by
  cases r with
  | ok a π => exact fun W' H' v t pn sm rv => h a π W' H' v t pn sm rv (p W' H' v t pn sm rv)
  | exn n π => exact p
  | bad => exact p
/-- the value as it is -/
theorem Post.now {Q : β → Hp → Prop} {v : β} {a : α} {π : Pn} (p : Post M R B W H σ Q (.ok a π)) (pn : PenOk W H π) (sm : Same W.F H) (r : R W v a) : Q v H := p W H v (Step.refl _ _) pn sm r
end

/-! ### the judgements: as HandS, of such functions -/
section
variable (M : Md) (B : WX)
def tE (f : SE Dv) : TE := fun σ H Q => ∃ W ρ π, StE M W H ρ π σ ∧ Post M (Rv M) B W H σ Q (f ρ π)
def tT (f : SE Bool) : TT := fun σ H Q => ∃ W ρ π, StE M W H ρ π σ ∧ Post M (fun _ b b' => b = b') B W H σ Q (f ρ π)
def tA (f : SE (List Dv)) : TA := fun σ H Q => ∃ W ρ π, StE M W H ρ π σ ∧ Post M (RvL M) B W H σ Q (f ρ π)
/-- a list just made, which nobody else holds -/
def PostL (W : Wd) (H : Hp) (σ : L2.St) (Q : VK) : Res (List PyData) → Prop
  | .ok ds π' => ∀ W' H' p xs, Step W H W' H' → PenOk W' H' π' → Same W'.F H' → H p = none → W'.F p = none → W'.pa ≠ some p → H' p = some (.lst xs) → xs.length ≤ sizeLine → DqAll W'.F xs ds → Q (.ref p) H'
  | .exn n π' => ∀ W' H' C, Step W H W' H' → PenOk W' H' π' → Same W'.F H' → M.mg n = some (.ref C) → B (.ref C) none σ H'
  | .bad => False
def tL (f : SE (List PyData)) : TE := fun σ H Q => ∃ W ρ π, StE M W H ρ π σ ∧ PostL M B W H σ Q (f ρ π)
end
theorem PE.weak {X : Cx} {e : Expr} {t t' : TE} (h : PE X e t) (w : ∀ σ H Q, t' σ H Q → t σ H Q) : PE X e t' := ⟨fun pins s σ H Q I q => h.run pins s σ H Q I (w σ H Q q)⟩
theorem PT.weak {X : Cx} {e : Expr} {t t' : TT} (h : PT X e t) (w : ∀ σ H Q, t' σ H Q → t σ H Q) : PT X e t' := ⟨fun pins s σ H Q I q => h.run pins s σ H Q I (w σ H Q q)⟩
theorem PW.weak {X : Cx} {e : Expr} {t t' : TT} (h : PW X e t) (w : ∀ σ H Q, t' σ H Q → t σ H Q) : PW X e t' := ⟨fun wh pins s σ H Q I q => h.run wh pins s σ H Q I (w σ H Q q)⟩
theorem PA.weak {X : Cx} {es : List Expr} {t t' : TA} (h : PA X es t) (w : ∀ σ H Q, t' σ H Q → t σ H Q) : PA X es t' := ⟨fun pos pins s σ H Q I q => h.run pos pins s σ H Q I (w σ H Q q)⟩
theorem PS.weak {X : Cx} {st : Stmt} {t t' : TS} (h : PS X st t) (w : ∀ D σ H, t' D σ H → t D σ H) : PS X st t' := ⟨fun pins s σ H D I q => h.run pins s σ H D I (w D σ H q)⟩
theorem PSs.weak {X : Cx} {st : List Stmt} {t t' : TS} (h : PSs X st t) (w : ∀ D σ H, t' D σ H → t D σ H) : PSs X st t' := ⟨fun pins s σ H D I q => h.run pins s σ H D I (w D σ H q)⟩

abbrev Cx.md (X : Cx) (tb : Tb) : Md := ⟨X.K, X.mg, tb⟩
section
variable {X : Cx} {B : WX} {M : Md}
/-- a made list is let go -/
def eFrz (f : SE (List PyData)) : SE Dv := fun ρ π => (f ρ π).bind fun ds π1 => .ok (.val (.list ds)) π1
theorem frz_imp {f : SE (List PyData)} : ∀ σ H Q, tE M B (eFrz f) σ H Q → tL M B f σ H Q := by
  rintro σ H Q ⟨W, ρ, π, st, p⟩
  refine ⟨W, ρ, π, st, ?_⟩
  unfold eFrz at p
  cases e : f ρ π with
  | bad => rw [e] at p; exact p
  | exn n π' => rw [e] at p; exact p
  | ok ds π' =>
    rw [e] at p
    intro W' H' q xs s pn sm n nf np eq z r
    obtain ⟨t, pn2, sm2, ss⟩ := letgo sm pn eq .lst nf np s n
    exact p ⟨upd W'.F q (.lst xs), W'.pa, W'.tb⟩ H' (.ref q) t pn2 sm2 (.val (.lst upd_same z (r.mono ss)))
theorem e_frz {e : Expr} {f : SE (List PyData)} (h : PE X e (tL M B f)) : PE X e (tE M B (eFrz f)) := PE.weak h frz_imp

/-! ### names and constants -/
def eVar (i : Nat) : SE Dv := fun ρ π => match ρ[i]? with
  | some (.val d) => .ok d π
  | _ => .bad
theorem var_imp {i : Nat} : ∀ σ H Q, tE M B (eVar i) σ H Q → tVar i σ H Q := by
  rintro σ H Q ⟨W, ρ, π, st, p⟩
  unfold eVar at p
  cases e : ρ[i]? with
  | none => rw [e] at p; exact p.elim
  | some s =>
    rw [e] at p
    cases s with
    | emp => exact p.elim
    | own ds => exact p.elim
    | val d =>
      obtain ⟨o, h1, h2⟩ := st.sl i _ e
      cases h2 with
      | val r => exact ⟨_, h1, p.now st.pen st.same r⟩
theorem e_var (i : Nat) {x : Str} {pos : Pos} (hN : X.N[i]? = some x := by rfl) (hv : Vis X.env.scope x := by first | exact Or.inl rfl | exact Or.inr (Or.inl rfl) | exact Or.inr (Or.inr rfl)) (hd : (x == ("__debug__" : Str)) = false := by decide)
    (hcd : (x == ("__classdict__" : Str)) = false := by decide) : PE X (.Name x pos) (tE M B (eVar i)) := PE.weak (pe_var hN hv hd hcd) var_imp
def eK (d : PyData) : SE Dv := fun _ π => .ok (.val d) π
theorem k_imp {v : V} {d : PyData} (r : ∀ F, Dq F v d) : ∀ σ H Q, tE M B (eK d) σ H Q → tC v σ H Q := by
  rintro σ H Q ⟨W, ρ, π, st, p⟩
  exact p.now st.pen st.same (.val (r _))
theorem e_int {i j pos} : PE X (.Constant (.int i) j pos) (tE M B (eK (.int i))) := PE.weak pe_int (k_imp fun _ => .int i)
theorem e_bl {b j pos} : PE X (.Constant (.bool b) j pos) (tE M B (eK (.bool b))) := PE.weak pe_bl (k_imp fun _ => .bl b)
theorem e_non {j pos} : PE X (.Constant .none j pos) (tE M B (eK .none)) := PE.weak pe_non (k_imp fun _ => .non)
theorem e_str {x j pos} : PE X (.Constant (.str x) j pos) (tE M B (eK (.str x))) := PE.weak pe_str (k_imp fun _ => .str x)
/-- a module's constant -/
theorem e_gint {x : Str} {i : Int} {t : Tok} {pos : Pos} (hm : X.mg x = some (.int i t)) (hg : Gl X x := by rfl) (hd : (x == ("__debug__" : Str)) = false := by decide) : PE X (.Name x pos) (tE M B (eK (.int i))) :=
  PE.weak (pe_glob (v := .int i) hg hm ⟨t, rfl⟩ hd) (k_imp fun _ => .int i)
theorem e_gstr {x y : Str} {t : Tok} {pos : Pos} (hm : X.mg x = some (.str y t)) (hg : Gl X x := by rfl) (hd : (x == ("__debug__" : Str)) = false := by decide) : PE X (.Name x pos) (tE M B (eK (.str y))) :=
  PE.weak (pe_glob (v := .str y) hg hm ⟨t, rfl⟩ hd) (k_imp fun _ => .str y)

/-! ### operators -/
/-- a pure operator, by the values -/
def rD (M : Md) (op : Dv → Dv → Option Dv) : R2 := fun x y H Q => ∃ W d e z, Same W.F H ∧ Rv M W x d ∧ Rv M W y e ∧ op d e = some z ∧ (∀ v H' W', Step W H W' H' → (∀ π, PenOk W H π → PenOk W' H' π) → Same W'.F H' → Rv M W' v z → Q v H')
def lift2 (op : Dv → Dv → Option Dv) (f g : SE Dv) : SE Dv := fun ρ π => (f ρ π).bind fun d π1 => (g ρ π1).bind fun e π2 => match op d e with
  | some z => .ok z π2
  | none => .bad
theorem bin_imp {op : Dv → Dv → Option Dv} {f g : SE Dv} : ∀ σ H Q, tE M B (lift2 op f g) σ H Q → tOp (rD M op) (tE M B f) (tE M B g) σ H Q := by
  rintro σ H Q ⟨W, ρ, π, st, p⟩
  refine ⟨W, ρ, π, st, p.bind fun d π1 W1 H1 v s1 pn1 sm1 r1 p1 => ⟨W1, ρ, π1, st.step s1 pn1 sm1, p1.bind fun e π2 W2 H2 u s2 pn2 sm2 r2 p2 => ?_⟩⟩
  cases q : op d e with
  | none => simp only [q] at p2; exact p2.elim
  | some z =>
    simp only [q] at p2
    exact ⟨W2, d, e, z, sm2, r1.step s2, r2, q, fun v' H' W' s3 pn3 sm3 r3 => p2 W' H' v' s3 (pn3 π2 pn2) sm3 r3⟩
theorem e_bin {a b : Expr} {o : Operator} {pos : Pos} {op : Dv → Dv → Option Dv} {f g : SE Dv} (ho : OpR X (binaryOp o) (rD M op)) (ha : PE X a (tE M B f)) (hb : PE X b (tE M B g)) : PE X (.BinOp a o b pos) (tE M B (lift2 op f g)) :=
  PE.weak (pe_op ho ha hb) bin_imp
theorem e_cmp {a b : Expr} {o : CmpOp} {pos : Pos} {op : Dv → Dv → Option Dv} {f g : SE Dv} (ho : OpR X (compareOp o) (rD M op)) (ha : PE X a (tE M B f)) (hb : PE X b (tE M B g)) (hm : behindInMarks o b = false := by first | exact nomark _ | rfl) :
    PE X (.Compare a [o] [b] pos) (tE M B (lift2 op f g)) := PE.weak (pe_cmpR ho ha hb hm) bin_imp
/-- the truth of what is a bool -/
def asB (f : SE Dv) : SE Bool := fun ρ π => (f ρ π).bind fun d π1 => match d with
  | .val (.bool b) => .ok b π1
  | _ => .bad
theorem asB_imp {f : SE Dv} {t : TE} (w : ∀ σ H Q, tE M B f σ H Q → t σ H Q) : ∀ σ H Q, tT M B (asB f) σ H Q → tTest t σ H Q := by
  rintro σ H Q ⟨W, ρ, π, st, p⟩
  refine w _ _ _ ⟨W, ρ, π, st, p.bind fun d π1 W1 H1 v s1 pn1 sm1 r1 p1 => ?_⟩
  cases r1 with
  | pen _ => exact p1.elim
  | scr _ _ => exact p1.elim
  | err _ _ => exact p1.elim
  | dct _ _ _ => exact p1.elim
  | fn _ => exact p1.elim
  | val r => cases r with
    | bl b => exact ⟨b, rfl, p1.now pn1 sm1 rfl⟩
    | non => exact p1.elim
    | int _ => exact p1.elim
    | str _ => exact p1.elim
    | lst _ _ _ => exact p1.elim
    | tup _ _ _ => exact p1.elim
theorem t_cmp {a b : Expr} {o : CmpOp} {pos : Pos} {op : Dv → Dv → Option Dv} {f g : SE Dv} (ho : OpR X (compareOp o) (rD M op)) (ha : PE X a (tE M B f)) (hb : PE X b (tE M B g)) (hm : behindInMarks o b = false := by first | exact nomark _ | rfl) :
    PT X (.Compare a [o] [b] pos) (tT M B (asB (lift2 op f g))) := PT.weak (pt_cmpR ho ha hb hm) (asB_imp bin_imp)
theorem t_val {e : Expr} {f : SE Dv} (h : PE X e (tE M B f)) (he : ∀ whole, isTrue e X.env whole = (do let v ← whole; standAt e.pos; holding [v] (truthy v)) := by intro _; rfl) : PT X e (tT M B (asB f)) :=
  PT.weak (pt_val h he) (asB_imp fun _ _ _ h => h)
/-- the truth of a value -/
def dTru : Dv → Option Bool
  | .val .none => some false
  | .val (.bool b) => some b
  | .val (.int i) => some (i != 0)
  | .val (.str x) => if x.length ≤ 16777216 then some (x.length != 0) else none
  | .val (.list ds) => some (!ds.isEmpty)
  | .val (.tuple ds) => some (!ds.isEmpty)
  | _ => none
theorem DqAll.isEmpty {F : Hp} {xs : List V} {ds : List PyData} (r : DqAll F xs ds) : ds.isEmpty = xs.isEmpty := by cases r <;> rfl
theorem line_le {n : Nat} : n ≤ 16777216 ↔ n ≤ sizeLine := by rw [sizeLine_eq]
theorem tru_v {K : PySem.W.Frag} {W : Wd} {H : Hp} {v : V} {d : Dv} {k : Bool} (sm : Same W.F H) (r : Rv M W v d) (h : dTru d = some k) : TruV K v H k := by
  cases r with
  | pen _ => cases h
  | scr _ _ => cases h
  | err _ _ => cases h
  | dct _ _ _ => cases h
  | fn _ => cases h
  | val r => cases r with
    | non => cases h; rfl
    | bl b => cases h; rfl
    | int i => cases h; rfl
    | str x =>
      have h : (if x.length ≤ 16777216 then some (x.length != 0) else none) = some k := h
      split at h
      · rename_i hz
        cases h
        refine ⟨line_le.mp hz, ?_⟩
        rw [Bool.eq_iff_iff]; simp
      · cases h
    | lst e z r => cases h; exact .inl ⟨_, SqL.of (sm _ _ e), by rw [r.isEmpty]⟩
    | tup e p z r => cases h; exact .inr (.inl ⟨_, SqT_frz ⟨_, e, p⟩ sm, by rw [r.isEmpty]⟩)
def asT (f : SE Dv) : SE Bool := fun ρ π => (f ρ π).bind fun d π1 => match dTru d with
  | some b => .ok b π1
  | none => .bad
theorem t_tru {e : Expr} {f : SE Dv} (h : PE X e (tE M B f)) (he : ∀ whole, isTrue e X.env whole = (do let v ← whole; standAt e.pos; holding [v] (truthy v)) := by intro _; rfl) : PT X e (tT M B (asT f)) := by
  refine PT.weak (pt_truth h he) ?_
  rintro σ H Q ⟨W, ρ, π, st, p⟩
  refine ⟨W, ρ, π, st, p.bind fun d π1 W1 H1 v s1 pn1 sm1 r1 p1 => ?_⟩
  cases q : dTru d with
  | none => simp only [q] at p1; exact p1.elim
  | some k =>
    simp only [q] at p1
    exact ⟨k, tru_v sm1 r1 q, p1.now pn1 sm1 rfl⟩

/-! ### and, or, not, if -/
def tAndF (f g : SE Bool) : SE Bool := fun ρ π => (f ρ π).bind fun b π1 => if b = true then g ρ π1 else .ok false π1
def tOrF (f g : SE Bool) : SE Bool := fun ρ π => (f ρ π).bind fun b π1 => if b = true then .ok true π1 else g ρ π1
def tNotF (f : SE Bool) : SE Bool := fun ρ π => (f ρ π).bind fun b π1 => .ok (!b) π1
theorem t_and1 {a : Expr} {pos : Pos} {f : SE Bool} (ha : PT X a (tT M B f)) : PW X (.BoolOp .And [a] pos) (tT M B f) := pw_and1 ha
theorem t_or1 {a : Expr} {pos : Pos} {f : SE Bool} (ha : PT X a (tT M B f)) : PW X (.BoolOp .Or [a] pos) (tT M B f) := pw_or1 ha
theorem t_and {a b : Expr} {rest : List Expr} {pos : Pos} {f g : SE Bool} (ha : PT X a (tT M B f)) (hb : PW X (.BoolOp .And (b :: rest) pos) (tT M B g)) : PW X (.BoolOp .And (a :: b :: rest) pos) (tT M B (tAndF f g)) := by
  refine PW.weak (pw_and ha hb) ?_
  rintro σ H Q ⟨W, ρ, π, st, p⟩
  refine ⟨W, ρ, π, st, p.bind fun d π1 W1 H1 v s1 pn1 sm1 r1 p1 => ?_⟩
  subst r1
  cases v with
  | true => rw [if_pos rfl] at p1 ⊢; exact ⟨W1, ρ, π1, st.step s1 pn1 sm1, p1⟩
  | false => rw [if_neg Bool.false_ne_true] at p1 ⊢; exact p1.now pn1 sm1 rfl
theorem t_or {a b : Expr} {rest : List Expr} {pos : Pos} {f g : SE Bool} (ha : PT X a (tT M B f)) (hb : PW X (.BoolOp .Or (b :: rest) pos) (tT M B g)) : PW X (.BoolOp .Or (a :: b :: rest) pos) (tT M B (tOrF f g)) := by
  refine PW.weak (pw_or ha hb) ?_
  rintro σ H Q ⟨W, ρ, π, st, p⟩
  refine ⟨W, ρ, π, st, p.bind fun d π1 W1 H1 v s1 pn1 sm1 r1 p1 => ?_⟩
  subst r1
  cases v with
  | true => rw [if_pos rfl] at p1 ⊢; exact p1.now pn1 sm1 rfl
  | false => rw [if_neg Bool.false_ne_true] at p1 ⊢; exact ⟨W1, ρ, π1, st.step s1 pn1 sm1, p1⟩
theorem t_not {a : Expr} {pos : Pos} {f : SE Bool} (ha : PT X a (tT M B f)) : PT X (.UnaryOp .Not a pos) (tT M B (tNotF f)) := by
  refine PT.weak (pt_not ha) ?_
  rintro σ H Q ⟨W, ρ, π, st, p⟩
  refine ⟨W, ρ, π, st, p.bind fun d π1 W1 H1 v s1 pn1 sm1 r1 p1 => ?_⟩
  subst r1
  exact p1.now pn1 sm1 rfl
def isB (f : SE Dv) (k : Bool → List Sv → Pn → Res Dv) : SE Dv := fun ρ π => (f ρ π).bind fun d π1 => match d with
  | .val (.bool b) => k b ρ π1
  | _ => .bad
def eAnd (f g : SE Dv) : SE Dv := isB f fun b ρ π1 => if b = true then g ρ π1 else .ok (.val (.bool false)) π1
def eOr (f g : SE Dv) : SE Dv := isB f fun b ρ π1 => if b = true then .ok (.val (.bool true)) π1 else g ρ π1
def eNot (f : SE Dv) : SE Dv := isB f fun b _ π1 => .ok (.val (.bool (!b))) π1
theorem isB_imp {f : SE Dv} {k : Bool → List Sv → Pn → Res Dv} {σ : L2.St} {H : Hp} {Q : VK} {R : Bool → Hp → Prop} (h : tE M B (isB f k) σ H Q)
    (hk : ∀ W ρ π b H1, StE M W H1 ρ π σ → Post M (Rv M) B W H1 σ Q (k b ρ π) → R b H1) : tE M B f σ H (fun x H1 => ∃ c, x = .bl c ∧ R c H1) := by
  obtain ⟨W, ρ, π, st, p⟩ := h
  refine ⟨W, ρ, π, st, p.bind fun d π1 W1 H1 v s1 pn1 sm1 r1 p1 => ?_⟩
  cases r1 with
  | pen _ => exact p1.elim
  | scr _ _ => exact p1.elim
  | err _ _ => exact p1.elim
  | dct _ _ _ => exact p1.elim
  | fn _ => exact p1.elim
  | val r => cases r with
    | bl b => exact ⟨b, rfl, hk W1 ρ π1 b H1 (st.step s1 pn1 sm1) p1⟩
    | non => exact p1.elim
    | int _ => exact p1.elim
    | str _ => exact p1.elim
    | lst _ _ _ => exact p1.elim
    | tup _ _ _ => exact p1.elim
theorem e_one {op} {a : Expr} {pos : Pos} {f : SE Dv} (h : PE X a (tE M B f)) : PE X (.BoolOp op [a] pos) (tE M B f) := pe_one h
theorem e_and {a b : Expr} {rest : List Expr} {pos : Pos} {f g : SE Dv} (ha : PE X a (tE M B f)) (hb : PE X (.BoolOp .And (b :: rest) pos) (tE M B g)) : PE X (.BoolOp .And (a :: b :: rest) pos) (tE M B (eAnd f g)) := by
  refine PE.weak (pe_and ha hb) fun σ H Q h => isB_imp h fun W ρ π b H1 st p => ?_
  cases b with
  | true => rw [if_pos rfl] at p ⊢; exact ⟨W, ρ, π, st, p⟩
  | false => rw [if_neg Bool.false_ne_true] at p ⊢; exact p.now st.pen st.same (.val (.bl false))
theorem e_or {a b : Expr} {rest : List Expr} {pos : Pos} {f g : SE Dv} (ha : PE X a (tE M B f)) (hb : PE X (.BoolOp .Or (b :: rest) pos) (tE M B g)) : PE X (.BoolOp .Or (a :: b :: rest) pos) (tE M B (eOr f g)) := by
  refine PE.weak (pe_or ha hb) fun σ H Q h => isB_imp h fun W ρ π b H1 st p => ?_
  cases b with
  | true => rw [if_pos rfl] at p ⊢; exact p.now st.pen st.same (.val (.bl true))
  | false => rw [if_neg Bool.false_ne_true] at p ⊢; exact ⟨W, ρ, π, st, p⟩
theorem e_not {a : Expr} {pos : Pos} {f : SE Dv} (ha : PE X a (tE M B f)) : PE X (.UnaryOp .Not a pos) (tE M B (eNot f)) := by
  refine PE.weak (pe_not ha) fun σ H Q h => isB_imp h fun W ρ π b H1 st p => ?_
  exact p.now st.pen st.same (.val (.bl (!b)))
def eIf (c : SE Bool) (f g : SE Dv) : SE Dv := fun ρ π => (c ρ π).bind fun b π1 => if b = true then f ρ π1 else g ρ π1
theorem e_if {c a b : Expr} {pos : Pos} {t : SE Bool} {f g : SE Dv} (hc : PT X c (tT M B t)) (ha : PE X a (tE M B f)) (hb : PE X b (tE M B g)) : PE X (.IfExp c a b pos) (tE M B (eIf t f g)) := by
  refine PE.weak (pe_ifExp hc ha hb) ?_
  rintro σ H Q ⟨W, ρ, π, st, p⟩
  refine ⟨W, ρ, π, st, p.bind fun d π1 W1 H1 v s1 pn1 sm1 r1 p1 => ?_⟩
  subst r1
  cases v with
  | true => rw [if_pos rfl] at p1 ⊢; exact ⟨W1, ρ, π1, st.step s1 pn1 sm1, p1⟩
  | false => rw [if_neg Bool.false_ne_true] at p1 ⊢; exact ⟨W1, ρ, π1, st.step s1 pn1 sm1, p1⟩

/-! ### arguments, displays -/
def aNil : SE (List Dv) := fun _ π => .ok [] π
def aCons (f : SE Dv) (g : SE (List Dv)) : SE (List Dv) := fun ρ π => (f ρ π).bind fun d π1 => (g ρ π1).bind fun ds π2 => .ok (d :: ds) π2
theorem a_nil : PA X [] (tA M B aNil) := PA.weak pa_nil fun σ H Q ⟨W, ρ, π, st, p⟩ => p.now st.pen st.same .nil
theorem a_cons {e : Expr} {es : List Expr} {f : SE Dv} {g : SE (List Dv)} (ha : PE X e (tE M B f)) (hr : PA X es (tA M B g)) (hs : starEach (e :: es) X.env = (false, eval e X.env) :: starEach es X.env := by rfl) : PA X (e :: es) (tA M B (aCons f g)) := by
  refine PA.weak (pa_cons ha hr hs) ?_
  rintro σ H Q ⟨W, ρ, π, st, p⟩
  exact ⟨W, ρ, π, st, p.bind fun d π1 W1 H1 v s1 pn1 sm1 r1 p1 => ⟨W1, ρ, π1, st.step s1 pn1 sm1, p1.bind fun ds π2 W2 H2 vs s2 pn2 sm2 r2 p2 => p2.now pn2 sm2 (.cons (r1.step s2) r2)⟩⟩
/-- all of them plain data -/
def plain : List Dv → Option (List PyData)
  | [] => some []
  | .val d :: r => (plain r).map (d :: ·)
  | _ :: _ => none
theorem plain_dq {W : Wd} : ∀ {vs : List V} {ds : List Dv} {es : List PyData}, RvL M W vs ds → plain ds = some es → DqAll W.F vs es
  | _, _, es, .nil, h => by cases h; exact .nil
  | _, _, es, .cons r t, h => by
    cases r with
    | pen _ => cases h
    | scr _ _ => cases h
    | err _ _ => cases h
    | dct _ _ _ => cases h
    | fn _ => cases h
    | @val v d r =>
      unfold plain at h
      cases q : plain _ with
      | none => rw [q] at h; cases h
      | some l => rw [q] at h; cases h; exact .cons r (plain_dq t q)
def lDisp (g : SE (List Dv)) : SE (List PyData) := fun ρ π => (g ρ π).bind fun ds π1 => match plain ds with
  | some es => if es.length ≤ 16777216 then .ok es π1 else .bad
  | none => .bad
theorem l_disp {es : List Expr} {pos : Pos} {g : SE (List Dv)} (h : PA X es (tA M B g)) : PE X (.List es pos) (tL M B (lDisp g)) := by
  refine PE.weak (pe_lst h) ?_
  rintro σ H Q ⟨W, ρ, π, st, p⟩
  refine ⟨W, ρ, π, st, ?_⟩
  unfold lDisp at p
  cases e : g ρ π with
  | bad => rw [e] at p; exact p
  | exn n π' => rw [e] at p; exact p
  | ok ds π' =>
    rw [e] at p
    intro W' H' vs s pn sm r
    cases q : plain ds with
    | none => simp only [Res.bind, q] at p; exact p.elim
    | some es' =>
      simp only [Res.bind, q] at p
      have r2 := plain_dq r q
      have l := r2.length
      split at p
      · rename_i hz
        refine ⟨by rw [l]; exact line_le.mp hz, fun a na => ?_⟩
        obtain ⟨s2, pn2, sm2⟩ := freshOwn (o := .lst vs) sm pn na
        refine p W' (upd H' a (.lst vs)) a vs (s.trans s2) pn2 sm2 (s.there a na) (sm.free na) (pn.npa na) upd_same (by rw [l]; exact line_le.mp hz) r2
      · exact p.elim
def eTup (g : SE (List Dv)) : SE Dv := fun ρ π => (g ρ π).bind fun ds π1 => match plain ds with
  | some es => if es.length ≤ 16777216 then .ok (.val (.tuple es)) π1 else .bad
  | none => .bad
theorem e_tup {es : List Expr} {x1} {pos : Pos} {g : SE (List Dv)} (h : PA X es (tA M B g)) : PE X (.Tuple es x1 pos) (tE M B (eTup g)) := by
  refine PE.weak (pe_tupZ h) ?_
  rintro σ H Q ⟨W, ρ, π, st, p⟩
  refine ⟨W, ρ, π, st, p.bind fun ds π' W' H' vs s pn sm r p1 => ?_⟩
  cases q : plain ds with
  | none => simp only [q] at p1; exact p1.elim
  | some es' =>
    simp only [q] at p1
    have r2 := plain_dq r q
    have l := r2.length
    split at p1
    · rename_i hz
      refine ⟨by rw [l]; exact line_le.mp hz, fun a o na po => ?_⟩
      obtain ⟨s2, pn2, sm2⟩ := fresh (o := .frz o (.tup vs)) sm pn na
      refine p1 _ _ _ s2 pn2 sm2 (.val (.tup upd_same po (by rw [l]; exact line_le.mp hz) (r2.mono s2.sub)))
    · exact p1.elim
end
end DL

set_option maxRecDepth 100000
set_option maxHeartbeats 8000000
namespace DL
open PySem PySem.Spec PyProof.Rows L2

def dAdd : Dv → Dv → Option Dv
  | .val (.int i), .val (.int j) => some (.val (.int (i + j)))
  | .val (.str x), .val (.str y) => if x.length + y.length ≤ 16777216 then some (.val (.str (x ++ y))) else none
  | .val (.list xs), .val (.list ys) => if xs.length + ys.length ≤ 16777216 then some (.val (.list (xs ++ ys))) else none
  | .val (.tuple xs), .val (.tuple ys) => if xs.length + ys.length ≤ 16777216 then some (.val (.tuple (xs ++ ys))) else none
  | _, _ => none
def dSub : Dv → Dv → Option Dv
  | .val (.int i), .val (.int j) => some (.val (.int (i - j)))
  | _, _ => none
def strRep (x : Str) (n : Int) : Str := ⟨(List.replicate n.toNat x.cps.toList).flatten.toArray⟩
def dMul : Dv → Dv → Option Dv
  | .val (.int i), .val (.int j) => if i.natAbs.log2 + j.natAbs.log2 < 1000000 then some (.val (.int (i * j))) else none
  | .val (.str x), .val (.int n) => if -1000000 ≤ n ∧ n ≤ 1000000 ∧ x.length * n.toNat ≤ 16777216 then some (.val (.str (strRep x n))) else none
  | .val (.list xs), .val (.int n) => if -1000000 ≤ n ∧ n ≤ 1000000 ∧ xs.length * n.toNat ≤ 16777216 then some (.val (.list (List.replicate n.toNat xs).flatten)) else none
  | _, _ => none
def dFdiv : Dv → Dv → Option Dv
  | .val (.int i), .val (.int j) => if 0 < j ∧ j.natAbs.log2 < 9000 then some (.val (.int (i / j))) else none
  | _, _ => none
def dMod : Dv → Dv → Option Dv
  | .val (.int i), .val (.int j) => if 0 < j then some (.val (.int (i % j))) else none
  | _, _ => none
def dPow : Dv → Dv → Option Dv
  | .val (.int i), .val (.int j) => if 0 ≤ j ∧ j ≤ 1000000 ∧ i.natAbs < 2 ^ 64 then some (.val (.int (i ^ j.toNat))) else none
  | _, _ => none
def dShl : Dv → Dv → Option Dv
  | .val (.int i), .val (.int j) => if 0 ≤ j ∧ j ≤ 1000000 ∧ i.natAbs < 2 ^ 64 then some (.val (.int (i * 2 ^ j.toNat))) else none
  | _, _ => none
def dInts (p : Int → Int → Bool) : Dv → Dv → Option Dv
  | .val (.int i), .val (.int j) => some (.val (.bool (p i j)))
  | _, _ => none
abbrev dLt := dInts fun i j => decide (i < j)
abbrev dLe := dInts fun i j => decide (i ≤ j)
abbrev dGt := dInts fun i j => decide (j < i)
abbrev dGe := dInts fun i j => decide (j ≤ i)
/-- == of data -/
def eqD : PyData → PyData → Option Bool
  | .int i, .int j => some (i == j)
  | .bool i, .bool j => some (i == j)
  | .str x, .str y => some (x == y)
  | .none, .none => some true
  | .str _, .none => some false
  | .none, .str _ => some false
  | d, e => if SeqAt.shaped d && SeqAt.shaped e then some (PyData.eqv d e) else none
def dEq : Dv → Dv → Option Dv
  | .val d, .val e => (eqD d e).map fun b => .val (.bool b)
  | _, _ => none
def dNe : Dv → Dv → Option Dv
  | .val d, .val e => (eqD d e).map fun b => .val (.bool (!b))
  | _, _ => none
def flatD : PyData → Bool
  | .none | .bool _ | .int _ | .str _ => true
  | _ => false
def inD : PyData → PyData → Option Bool
  | .str x, .str y => some (!(Builtin.Str.occurrences y x 0 y.length 1).isEmpty)
  | d, .list es => if flatD d && es.all flatD then some (es.any fun e => PyData.eqv e d) else none
  | d, .tuple es => if flatD d && es.all flatD then some (es.any fun e => PyData.eqv e d) else none
  | _, _ => none
def dIn : Dv → Dv → Option Dv
  | .val d, .val e => (inD d e).map fun b => .val (.bool b)
  | _, _ => none
def dNotIn : Dv → Dv → Option Dv
  | .val d, .val e => (inD d e).map fun b => .val (.bool (!b))
  | _, _ => none
def dIsN : Dv → Dv → Option Dv
  | .val .none, .val .none => some (.val (.bool true))
  | _, .val .none => some (.val (.bool false))
  | _, _ => none
def dNotN : Dv → Dv → Option Dv
  | .val .none, .val .none => some (.val (.bool false))
  | _, .val .none => some (.val (.bool true))
  | _, _ => none

section
variable {X : Cx} {tb : Tb}
theorem stay {W : Wd} {H : Hp} {z : Dv} {Q : VK} (q : ∀ v H' W', Step W H W' H' → (∀ π, PenOk W H π → PenOk W' H' π) → Same W'.F H' → Rv (Cx.md X tb) W' v z → Q v H') (sm : Same W.F H) {v : V} (r : Rv (Cx.md X tb) W v z) : Q v H :=
  q v H W (Step.refl _ _) (fun _ p => p) sm r
theorem grow {W : Wd} {H : Hp} {z : Dv} {Q : VK} (q : ∀ v H' W', Step W H W' H' → (∀ π, PenOk W H π → PenOk W' H' π) → Same W'.F H' → Rv (Cx.md X tb) W' v z → Q v H') (sm : Same W.F H) {o : HO} {p : Addr} (n : H p = none)
    (r : Rv (Cx.md X tb) ⟨upd W.F p o, W.pa, W.tb⟩ (.ref p) z) : Q (.ref p) (upd H p o) := by
  have nf : W.F p = none := sm.free n
  refine q (.ref p) (upd H p o) ⟨upd W.F p o, W.pa, W.tb⟩ ⟨fun a u e => ?_, fun a u e => ?_, fun a u e _ _ => ?_, fun a e => ?_, fun _ e => e, fun _ e => .inl e, rfl⟩ (fun π pn => (pn.same n nf).1) (fun a u e => ?_) r
  · show upd W.F p o a = _
    rw [upd_ne (ne_of_none e nf)]; exact e
  · have e : upd W.F p o a = some u := e
    by_cases h : a = p
    · subst h; exact .inr n
    · rw [upd_ne h] at e; exact .inl e
  · rw [upd_ne (ne_of_none e n)]; exact e
  · by_cases h : a = p
    · subst h; exact n
    · rw [upd_ne h] at e; exact e
  · have e : upd W.F p o a = some u := e
    by_cases h : a = p
    · subst h; rw [upd_same] at e ⊢; exact e
    · rw [upd_ne h] at e ⊢; exact sm a u e
theorem grows {W : Wd} {p : Addr} {o : HO} (n : W.F p = none) : Same W.F (upd W.F p o) := fun a u e => by rw [upd_ne (ne_of_none e n)]; exact e
theorem rv_int {W : Wd} {v : V} {i : Int} (r : Rv (Cx.md X tb) W v (.val (.int i))) : v = .int i := by cases r with | val r => cases r; rfl
theorem rv_str {W : Wd} {v : V} {i : Str} (r : Rv (Cx.md X tb) W v (.val (.str i))) : v = .str i := by cases r with | val r => cases r; rfl
theorem rv_bl {W : Wd} {v : V} {i : Bool} (r : Rv (Cx.md X tb) W v (.val (.bool i))) : v = .bl i := by cases r with | val r => cases r; rfl
theorem rv_non {W : Wd} {v : V} (r : Rv (Cx.md X tb) W v (.val .none)) : v = .non := by cases r with | val r => cases r; rfl
theorem rv_lst {W : Wd} {v : V} {ds : List PyData} (r : Rv (Cx.md X tb) W v (.val (.list ds))) : ∃ a xs, v = .ref a ∧ W.F a = some (.lst xs) ∧ xs.length ≤ sizeLine ∧ DqAll W.F xs ds := by
  cases r with | val r => cases r with | lst e z r => exact ⟨_, _, rfl, e, z, r⟩
theorem rv_tup {W : Wd} {v : V} {ds : List PyData} (r : Rv (Cx.md X tb) W v (.val (.tuple ds))) : ∃ a xs, v = .ref a ∧ (∃ o, W.F a = some (.frz o (.tup xs)) ∧ PlT o) ∧ xs.length ≤ sizeLine ∧ DqAll W.F xs ds := by
  cases r with | val r => cases r with | tup e p z r => exact ⟨_, _, rfl, ⟨_, e, p⟩, z, r⟩
theorem rv_data {W : Wd} {v : V} {d : PyData} (r : Rv (Cx.md X tb) W v (.val d)) : Dq W.F v d := by cases r with | val r => exact r

theorem o_add : OpR X (binaryOp .Add) (rD (Cx.md X tb) dAdd) := by
  rintro pins s σ H x y v u Q I rx ry ⟨W, d, e, z, sm, rd, re, hz, q⟩
  unfold dAdd at hz
  split at hz
  · cases hz; cases rv_int rd; cases rv_int re
    exact op_add pins s σ H _ _ v u Q I rx ry ⟨_, _, rfl, rfl, stay q sm (.val (.int _))⟩
  · split at hz
    · rename_i hl
      cases hz; cases rv_str rd; cases rv_str re
      exact op_add_str pins s σ H _ _ v u Q I rx ry ⟨_, _, rfl, rfl, line_le.mp hl, stay q sm (.val (.str _))⟩
    · cases hz
  · split at hz
    · rename_i hl
      cases hz
      obtain ⟨a, xs, rfl, ea, za, ra⟩ := rv_lst rd
      obtain ⟨b, ys, rfl, eb, zb, rb⟩ := rv_lst re
      have hl2 : xs.length + ys.length ≤ sizeLine := by rw [ra.length, rb.length]; exact line_le.mp hl
      refine op_cat pins s σ H _ _ v u Q I rx ry ⟨a, b, xs, ys, rfl, rfl, sm _ _ ea, sm _ _ eb, hl2, fun p n => grow q sm n ?_⟩
      have g := grows (o := .lst (xs ++ ys)) (sm.free n)
      exact .val (.lst upd_same (by rw [List.length_append]; exact hl2) ((ra.mono g).append (rb.mono g)))
    · cases hz
  · split at hz
    · rename_i hl
      cases hz
      obtain ⟨a, xs, rfl, ea, za, ra⟩ := rv_tup rd
      obtain ⟨b, ys, rfl, eb, zb, rb⟩ := rv_tup re
      have hl2 : xs.length + ys.length ≤ sizeLine := by rw [ra.length, rb.length]; exact line_le.mp hl
      refine op_catZ pins s σ H _ _ v u Q I rx ry ⟨a, b, xs, ys, rfl, rfl, SqT_frz ea sm, SqT_frz eb sm, hl2, fun h => ?_, fun _ h => ?_, fun _ _ p o n po => grow q sm n ?_⟩
      · subst h
        cases ra
        exact stay q sm (.val (.tupE eb zb rb))
      · subst h
        cases rb
        rw [List.append_nil] at q
        exact stay q sm (.val (.tupE ea za ra))
      · have g := grows (o := .frz o (.tup (xs ++ ys))) (sm.free n)
        exact .val (.tup upd_same po (by rw [List.length_append]; exact hl2) ((ra.mono g).append (rb.mono g)))
    · cases hz
  · cases hz
theorem o_sub : OpR X (binaryOp .Sub) (rD (Cx.md X tb) dSub) := by
  rintro pins s σ H x y v u Q I rx ry ⟨W, d, e, z, sm, rd, re, hz, q⟩
  unfold dSub at hz
  split at hz
  · cases hz; cases rv_int rd; cases rv_int re
    exact op_sub pins s σ H _ _ v u Q I rx ry ⟨_, _, rfl, rfl, stay q sm (.val (.int _))⟩
  · cases hz
theorem fold_rep (c : Array Nat) : ∀ (n : Nat) (acc : Array Nat), ((List.replicate n c).foldl (· ++ ·) acc).toList = acc.toList ++ (List.replicate n c.toList).flatten
  | 0, acc => by simp
  | n + 1, acc => by
    rw [List.replicate_succ, List.foldl_cons, fold_rep c n, List.replicate_succ, List.flatten_cons, Array.toList_append, List.append_assoc]
theorem rep_str (x : Str) (n : Int) : (⟨(List.replicate n.toNat x.cps).foldl (· ++ ·) #[]⟩ : Str) = strRep x n := by
  unfold strRep
  congr 1
  apply Array.toList_inj.mp
  rw [fold_rep]
  simp
theorem o_mul : OpR X (binaryOp .Mult) (rD (Cx.md X tb) dMul) := by
  rintro pins s σ H x y v u Q I rx ry ⟨W, d, e, z, sm, rd, re, hz, q⟩
  unfold dMul at hz
  split at hz
  · split at hz
    · rename_i hl
      cases hz; cases rv_int rd; cases rv_int re
      exact op_mulW pins s σ H _ _ v u Q I rx ry ⟨_, _, rfl, rfl, hl, stay q sm (.val (.int _))⟩
    · cases hz
  · split at hz
    · rename_i a n hl
      cases hz; cases rv_str rd; cases rv_int re
      obtain ⟨t, rfl⟩ := rx
      obtain ⟨t', rfl⟩ := ry
      obtain ⟨h1, h2, h3⟩ := hl
      refine P.mul_str ?_ ?_ ?_ ?_
      · rw [decide_eq_false (by omega), decide_eq_false (by omega)]; rfl
      · intro h4 h5 h6
        have h7 : (2 ^ 63 - 1 : Int) / n ≥ 16777216 := by
          have : (16777216 : Int) * n ≤ 2 ^ 63 - 1 := by omega
          exact (Int.le_ediv_iff_mul_le (by omega)).mpr this
        have h8 : a.length ≤ a.length * n.toNat := Nat.le_mul_of_pos_right _ (by omega)
        omega
      · intro h4 h5
        unfold Builtin.Str.tooLong
        rw [decide_eq_false]
        have := line_le.mp h3
        omega
      · split
        · rename_i h4
          have e0 : strRep a n = Str.empty := by
            unfold strRep
            rw [show n.toNat = 0 by omega]
            rfl
          exact ⟨by decide, ⟨.str _, H, I.tok _, ⟨_, rfl⟩, by rw [← e0]; exact stay q sm (.val (.str _))⟩⟩
        · split
          · rename_i h4 h5
            have e0 : strRep a n = a := by
              rcases Bool.or_eq_true_iff.mp h5 with h5 | h5
              · have : n = 1 := by simpa using h5
                subst this
                unfold strRep
                simp
              · have h6 : a.length = 0 := by simpa using h5
                have h7 : a.cps.toList = [] := by
                  have : a.cps.toList.length = 0 := h6
                  exact List.length_eq_zero_iff.mp this
                unfold strRep
                rw [h7]
                have h8 : a = ⟨#[]⟩ := by
                  obtain ⟨c⟩ := a
                  congr 1
                  exact Array.toList_inj.mp h7
                rw [h8]
                congr 1
                simp
            exact ⟨.str _, H, I.tok _, ⟨_, rfl⟩, by rw [← e0]; exact stay q sm (.val (.str _))⟩
          · rw [rep_str]
            refine ⟨?_, ⟨.str _, H, I.tok _, ⟨_, rfl⟩, stay q sm (.val (.str _))⟩⟩
            have : (strRep a n).length = a.length * n.toNat := by
              show ((List.replicate n.toNat a.cps.toList).flatten.toArray).size = _
              rw [List.size_toArray, List.length_flatten, List.map_replicate, List.sum_replicate_nat]
              exact Nat.mul_comm _ _
            rw [this]
            exact line_le.mp h3
    · cases hz
  · split at hz
    · rename_i ds kk hl
      cases hz
      obtain ⟨h1, h2, h3⟩ := hl
      obtain ⟨a, xs, rfl, ea, za, ra⟩ := rv_lst rd
      cases rv_int re
      have h4 := line_le.mp h3
      rw [← ra.length] at h4
      refine op_rep pins s σ H _ _ v u Q I rx ry ⟨a, _, xs, rfl, rfl, sm _ _ ea, by omega, by omega, h4, fun p n => grow q sm n ?_⟩
      have g := grows (o := .lst (List.replicate kk.toNat xs).flatten) (sm.free n)
      refine .val (.lst upd_same ?_ ?_)
      · simp only [List.length_flatten, List.map_replicate, List.sum_replicate_nat]; rw [Nat.mul_comm]; exact h4
      · have rep : ∀ k : Nat, DqAll (upd W.F p (.lst (List.replicate kk.toNat xs).flatten)) (List.replicate k xs).flatten (List.replicate k ds).flatten := fun k => by
          induction k with
          | zero => exact .nil
          | succ k ih => rw [List.replicate_succ, List.replicate_succ, List.flatten_cons, List.flatten_cons]; exact (ra.mono g).append ih
        exact rep _
    · cases hz
  · cases hz
theorem o_fdiv : OpR X (binaryOp .FloorDiv) (rD (Cx.md X tb) dFdiv) := by
  rintro pins s σ H x y v u Q I rx ry ⟨W, d, e, z, sm, rd, re, hz, q⟩
  unfold dFdiv at hz
  split at hz
  · split at hz
    · rename_i hl
      cases hz; cases rv_int rd; cases rv_int re
      exact op_fdivW pins s σ H _ _ v u Q I rx ry ⟨_, _, rfl, rfl, hl, stay q sm (.val (.int _))⟩
    · cases hz
  · cases hz
theorem o_mod : OpR X (binaryOp .Mod) (rD (Cx.md X tb) dMod) := by
  rintro pins s σ H x y v u Q I rx ry ⟨W, d, e, z, sm, rd, re, hz, q⟩
  unfold dMod at hz
  split at hz
  · split at hz
    · rename_i hl
      cases hz; cases rv_int rd; cases rv_int re
      exact op_mod pins s σ H _ _ v u Q I rx ry ⟨_, _, rfl, rfl, hl, stay q sm (.val (.int _))⟩
    · cases hz
  · cases hz
theorem o_pow : OpR X (binaryOp .Pow) (rD (Cx.md X tb) dPow) := by
  rintro pins s σ H x y v u Q I rx ry ⟨W, d, e, z, sm, rd, re, hz, q⟩
  unfold dPow at hz
  split at hz
  · split at hz
    · rename_i hl
      cases hz; cases rv_int rd; cases rv_int re
      exact op_pow pins s σ H _ _ v u Q I rx ry ⟨_, _, rfl, rfl, hl, stay q sm (.val (.int _))⟩
    · cases hz
  · cases hz
theorem o_shl : OpR X (binaryOp .LShift) (rD (Cx.md X tb) dShl) := by
  rintro pins s σ H x y v u Q I rx ry ⟨W, d, e, z, sm, rd, re, hz, q⟩
  unfold dShl at hz
  split at hz
  · split at hz
    · rename_i hl
      cases hz; cases rv_int rd; cases rv_int re
      exact op_shl pins s σ H _ _ v u Q I rx ry ⟨_, _, rfl, rfl, hl, stay q sm (.val (.int _))⟩
    · cases hz
  · cases hz
theorem o_ints {o : CmpOp} {p : Int → Int → Bool} (h : OpR X (compareOp o) (rI0 fun i j => .bl (p i j))) : OpR X (compareOp o) (rD (Cx.md X tb) (dInts p)) := by
  rintro pins s σ H x y v u Q I rx ry ⟨W, d, e, z, sm, rd, re, hz, q⟩
  unfold dInts at hz
  split at hz
  · cases hz; cases rv_int rd; cases rv_int re
    exact h pins s σ H _ _ v u Q I rx ry ⟨_, _, rfl, rfl, stay q sm (.val (.bl _))⟩
  · cases hz
theorem o_lt : OpR X (compareOp .Lt) (rD (Cx.md X tb) dLt) := o_ints op_lt
theorem o_le : OpR X (compareOp .LtE) (rD (Cx.md X tb) dLe) := o_ints op_le
theorem o_gt : OpR X (compareOp .Gt) (rD (Cx.md X tb) dGt) := o_ints op_gt
theorem o_ge : OpR X (compareOp .GtE) (rD (Cx.md X tb) dGe) := o_ints op_ge
theorem beq_dec {α : Type} [DecidableEq α] [BEq α] [LawfulBEq α] {a b : α} : (a == b) = decide (a = b) := by
  by_cases h : a = b
  · subst h; simp
  · rw [decide_eq_false h]; exact beq_eq_false_iff_ne.mpr h
theorem o_eq (hu : X.A.units + 64 < cLine) : OpR X (compareOp .Eq) (rD (Cx.md X tb) dEq) := by
  rintro pins s σ H x y v u Q I rx ry ⟨W, d, e, z, sm, rd, re, hz, q⟩
  unfold dEq at hz
  split at hz
  · rename_i d e
    cases hq : eqD d e with
    | none => rw [hq] at hz; cases hz
    | some b =>
      rw [hq] at hz; cases hz
      unfold eqD at hq
      have fin := stay q sm (v := .bl b) (.val (.bl _))
      split at hq
      · cases rv_int rd; cases rv_int re; cases hq
        exact op_eq pins s σ H _ _ v u Q I rx ry ⟨rfl, by rw [dec_int]; exact fin⟩
      · cases rv_bl rd; cases rv_bl re; cases hq
        exact op_eq pins s σ H _ _ v u Q I rx ry ⟨rfl, by rw [dec_bl]; exact fin⟩
      · cases rv_str rd; cases rv_str re; cases hq
        exact op_eq pins s σ H _ _ v u Q I rx ry ⟨rfl, by rw [dec_str]; exact fin⟩
      · cases rv_non rd; cases rv_non re; cases hq
        exact op_eq pins s σ H _ _ v u Q I rx ry ⟨rfl, fin⟩
      · cases rv_str rd; cases rv_non re; cases hq
        exact op_eq pins s σ H _ _ v u Q I rx ry ⟨rfl, fin⟩
      · cases rv_non rd; cases rv_str re; cases hq
        exact op_eq pins s σ H _ _ v u Q I rx ry ⟨rfl, fin⟩
      · split at hq
        · rename_i hs
          cases hq
          have hs := Bool.and_eq_true_iff.mp hs
          exact op_eqD hu pins s σ H x y v u Q I rx ry ⟨_, _, (rv_data rd).dp sm, (rv_data re).dp sm, hs.1, hs.2, fin⟩
        · cases hq
  · cases hz
theorem o_ne (hu : X.A.units + 64 < cLine) : OpR X (compareOp .NotEq) (rD (Cx.md X tb) dNe) := by
  rintro pins s σ H x y v u Q I rx ry ⟨W, d, e, z, sm, rd, re, hz, q⟩
  unfold dNe at hz
  split at hz
  · rename_i d e
    cases hq : eqD d e with
    | none => rw [hq] at hz; cases hz
    | some b =>
      rw [hq] at hz; cases hz
      unfold eqD at hq
      have fin := stay q sm (v := .bl (!b)) (.val (.bl _))
      split at hq
      · cases rv_int rd; cases rv_int re; cases hq
        exact op_ne pins s σ H _ _ v u Q I rx ry ⟨rfl, by rw [dec_int]; exact fin⟩
      · cases rv_bl rd; cases rv_bl re; cases hq
        exact op_ne pins s σ H _ _ v u Q I rx ry ⟨rfl, by rw [dec_bl]; exact fin⟩
      · cases rv_str rd; cases rv_str re; cases hq
        exact op_ne pins s σ H _ _ v u Q I rx ry ⟨rfl, by rw [dec_str]; exact fin⟩
      · cases rv_non rd; cases rv_non re; cases hq
        exact op_ne pins s σ H _ _ v u Q I rx ry ⟨rfl, fin⟩
      · cases rv_str rd; cases rv_non re; cases hq
        exact op_ne pins s σ H _ _ v u Q I rx ry ⟨rfl, fin⟩
      · cases rv_non rd; cases rv_str re; cases hq
        exact op_ne pins s σ H _ _ v u Q I rx ry ⟨rfl, fin⟩
      · split at hq
        · rename_i hs
          cases hq
          have hs := Bool.and_eq_true_iff.mp hs
          exact op_neD hu pins s σ H x y v u Q I rx ry ⟨_, _, (rv_data rd).dp sm, (rv_data re).dp sm, hs.1, hs.2, fin⟩
        · cases hq
  · cases hz
theorem flat_v {F : Hp} {v : V} {d : PyData} (r : Dq F v d) (h : flatD d = true) : flatV v = true := by cases r <;> first | rfl | cases h
theorem flat_all {F : Hp} : ∀ {vs : List V} {ds : List PyData}, DqAll F vs ds → ds.all flatD = true → vs.all flatV = true
  | _, _, .nil, _ => rfl
  | _, _, .cons r t, h => by
    rw [List.all_cons, Bool.and_eq_true_iff] at h
    rw [List.all_cons, flat_v r h.1, flat_all t h.2]; rfl
theorem eqv_v {F : Hp} {v w : V} {d e : PyData} (r : Dq F v d) (t : Dq F w e) (h : flatD d = true) (k : flatD e = true) : eqV v w = PyData.eqv d e := by
  have no : ∀ {P : Prop}, false = true → P := fun z => by cases z
  cases r with
  | lst _ _ _ => exact no h
  | tup _ _ _ => exact no h
  | non => cases t <;> first | rfl | exact no k
  | bl b => cases t <;> first | rfl | exact no k
  | int b => cases t <;> first | rfl | exact no k
  | str b => cases t <;> first | rfl | exact no k
theorem in_any {F : Hp} {w : V} {e : PyData} (t : Dq F w e) (k : flatD e = true) : ∀ {vs : List V} {ds : List PyData}, DqAll F vs ds → ds.all flatD = true → inV w vs = ds.any fun d => PyData.eqv d e
  | _, _, .nil, _ => rfl
  | _, _, .cons r u, h => by
    rw [List.all_cons, Bool.and_eq_true_iff] at h
    have ih := in_any t k u h.2
    unfold inV at ih ⊢
    rw [List.any_cons, List.any_cons, ih, eqv_v r t h.1 k]
theorem o_in_aux {o : CmpOp} {neg : Bool} (h1 : OpR X (compareOp o) (fun x y H Q => ∃ i j, x = .str i ∧ y = .str j ∧ Q (.bl (if neg then !(!(Builtin.Str.occurrences j i 0 j.length 1).isEmpty) else !(Builtin.Str.occurrences j i 0 j.length 1).isEmpty)) H))
    (h2 : OpR X (compareOp o) (rIn X.K neg)) {pins : List (Addr × Obj)} {s : Shared} {σ : L2.St} {H : Hp} {x y : V} {v u : Value} {Q : VK} (I : Inv X pins σ H s) (rx : RelV x v) (ry : RelV y u) {W : Wd} {d e : PyData} {b : Bool} (sm : Same W.F H)
    (rd : Dq W.F x d) (re : Dq W.F y e) (hq : inD d e = some b) (q : Q (.bl (if neg then !b else b)) H) : wpAny (model X.prog X.w) X.A (compareOp o v u) (EP X pins σ Q) X.xe s := by
  unfold inD at hq
  split at hq
  · cases hq; cases rd; cases re
    exact h1 pins s σ H _ _ v u Q I rx ry ⟨_, _, rfl, rfl, q⟩
  · split at hq
    · rename_i hs
      cases hq
      have hs := Bool.and_eq_true_iff.mp hs
      cases re with
      | lst ea za ra => exact h2 pins s σ H _ _ v u Q I rx ry ⟨_, _, rfl, .inl (SqL.of (sm _ _ ea)), flat_v rd hs.1, flat_all ra hs.2, by rw [in_any rd hs.1 ra hs.2]; exact q⟩
    · cases hq
  · split at hq
    · rename_i hs
      cases hq
      have hs := Bool.and_eq_true_iff.mp hs
      cases re with
      | tup ea po za ra => exact h2 pins s σ H _ _ v u Q I rx ry ⟨_, _, rfl, .inr (SqT_frz ⟨_, ea, po⟩ sm), flat_v rd hs.1, flat_all ra hs.2, by rw [in_any rd hs.1 ra hs.2]; exact q⟩
    · cases hq
  · cases hq
theorem o_in : OpR X (compareOp .In) (rD (Cx.md X tb) dIn) := by
  rintro pins s σ H x y v u Q I rx ry ⟨W, d, e, z, sm, rd, re, hz, q⟩
  unfold dIn at hz
  split at hz
  · rename_i d e
    cases hq : inD d e with
    | none => rw [hq] at hz; cases hz
    | some b =>
      rw [hq] at hz; cases hz
      exact o_in_aux (neg := false) op_in_str op_in_seq I rx ry sm (rv_data rd) (rv_data re) hq (stay q sm (.val (.bl _)))
  · cases hz
theorem o_notin : OpR X (compareOp .NotIn) (rD (Cx.md X tb) dNotIn) := by
  rintro pins s σ H x y v u Q I rx ry ⟨W, d, e, z, sm, rd, re, hz, q⟩
  unfold dNotIn at hz
  split at hz
  · rename_i d e
    cases hq : inD d e with
    | none => rw [hq] at hz; cases hz
    | some b =>
      rw [hq] at hz; cases hz
      exact o_in_aux (neg := true) op_notin_str op_notIn_seq I rx ry sm (rv_data rd) (rv_data re) hq (stay q sm (.val (.bl _)))
  · cases hz
theorem isN_of {W : Wd} {v : V} {d : Dv} (r : Rv (Cx.md X tb) W v d) : decide (v = .non) = match d with | .val .none => true | _ => false := by
  cases r with
  | val r => cases r <;> rfl
  | pen _ => rfl
  | scr _ _ => rfl
  | err _ _ => rfl
  | dct _ _ _ => rfl
  | fn _ => rfl
theorem o_isN : OpR X (compareOp .Is) (rD (Cx.md X tb) dIsN) := by
  rintro pins s σ H x y v u Q I rx ry ⟨W, d, e, z, sm, rd, re, hz, q⟩
  unfold dIsN at hz
  split at hz
  · cases hz; cases rv_non rd; cases rv_non re
    exact op_isN pins s σ H _ _ v u Q I rx ry ⟨rfl, stay q sm (.val (.bl _))⟩
  · rename_i hn
    cases hz; cases rv_non re
    refine op_isN pins s σ H _ _ v u Q I rx ry ⟨rfl, ?_⟩
    rw [isN_of rd]
    split
    · exact (hn rfl).elim
    · exact stay q sm (.val (.bl _))
  · cases hz
theorem o_notN : OpR X (compareOp .IsNot) (rD (Cx.md X tb) dNotN) := by
  rintro pins s σ H x y v u Q I rx ry ⟨W, d, e, z, sm, rd, re, hz, q⟩
  unfold dNotN at hz
  split at hz
  · cases hz; cases rv_non rd; cases rv_non re
    exact op_notN pins s σ H _ _ v u Q I rx ry ⟨rfl, stay q sm (.val (.bl _))⟩
  · rename_i hn
    cases hz; cases rv_non re
    refine op_notN pins s σ H _ _ v u Q I rx ry ⟨rfl, ?_⟩
    rw [isN_of rd]
    split
    · exact (hn rfl).elim
    · exact stay q sm (.val (.bl _))
  · cases hz
end
end DL

set_option maxRecDepth 100000
set_option maxHeartbeats 8000000
/-! zip of two texts. -/
namespace DLZ
open PySem PySem.Spec PyProof.Rows L2
open PySem.Sem (wp)
section
variable {prog : Program} {w : World} {A : Around}
/-- an iterator that zip asks: n items, item i is one of val i; st i: i items are gone -/
structure Nx (prog : Program) (w : World) (A : Around) (it : Addr) (n : Nat) (val : Nat → Value → Prop) (st : Nat → Heap → Prop) : Prop where
  item : ∀ (E : Value → Shared → Prop) (s : Shared) (i : Nat) (Q : Value → Shared → Prop), st i s.heap → i < n →
    (∀ v h' tk, val i v → st (i + 1) h' → Heap.SameBut it s.heap h' → Q v { s with heap := h', toks := tk }) → wpAny (model prog w) A (Builtin.SmallTypes.nextOf (.ref it)) Q E s
  done : ∀ (E : Value → Shared → Prop) (s : Shared) (i : Nat) (Q : Value → Shared → Prop), st i s.heap → n ≤ i →
    (∀ h' e, Heap.ExtBut it s.heap h' → (∃ o, h'.get? e = some o ∧ o.cls = .type "StopIteration") → E (.ref e) { s with heap := h' }) → wpAny (model prog w) A (Builtin.SmallTypes.nextOf (.ref it)) Q E s
  at_ : ∀ i (h h' : Heap), st i h → (∀ o, h.get? it = some o → h'.get? it = some o) → st i h'
  lt : ∀ i h, st i h → it < h.objs.size

abbrev SIt (it : Addr) (ty : String) (x : Str) (t : Tok) : Nat → Heap → Prop := fun i h => h.IsStrIter it ty x t i
theorem nx_str_aux {ty : String} {fid : String} {bi : Builtin} (hs : Slot ty "__next__" fid) (he : entryFor table fid = some bi) (ha : ∀ a, argsOk fid ⟨[a], []⟩) (hb : bi = Builtin.«str_iterator.__next__» ∨ bi = Builtin.«str_ascii_iterator.__next__»)
    (hh : A.handled = none) (it : Addr) (x : Str) (t : Tok) : Nx prog w A it x.cps.size (SignAt x) (SIt it ty x t) where
  item := fun E s i Q hit hi hQ => by
    obtain ⟨o, ho, hc, hd⟩ := id hit
    have hx : x.cps[i]? = some x.cps[i] := by simp [hi]
    unfold Builtin.SmallTypes.nextOf
    refine wpAny_bind (wpAny_callSpecial?_slot (name := Str.ofString "__next__") hit.typeIs hs (wpAny_call_entry hs hit.typeIs he ?_ (ha _)))
    rcases hb with rfl | rfl <;>
    · show wpAny _ _ (field (.ref it) 0 >>= _) _ _ s
      refine wpAny_bind (wpAny_field ho hd (x := .str x t) rfl (show wpAny _ _ (field (.ref it) 1 >>= _) _ _ s from wpAny_bind (wpAny_field ho hd (x := .int i 0) rfl ?_)))
      simp only [Int.toNat_natCast, hx]
      refine wpAny_bind (wpAny_setField ho hd (by simp) (wpAny_bind (wpAny_mkStr (wpAny_pure ⟨_, rfl, wpAny_pure (hQ _ _ _ ⟨_, _, hx, rfl⟩ ?_ (Heap.SameBut.update ..))⟩) (by show 1 ≤ sizeLine; decide))))
      exact ⟨_, Heap.get?_update_self _ ho (Obj.isFreed_of_fields (Obj.data_mapFields hd _)), (Obj.cls_mapFields ..).trans hc, by rw [Obj.data_mapFields hd]; simp [rawInt]⟩
  done := fun E s i Q hit hi hE => by
    obtain ⟨o, ho, hc, hd⟩ := id hit
    have hx : x.cps[i]? = none := by simp; exact hi
    unfold Builtin.SmallTypes.nextOf
    refine wpAny_bind (wpAny_callSpecial?_slot (name := Str.ofString "__next__") hit.typeIs hs (wpAny_call_entry hs hit.typeIs he ?_ (ha _)))
    rcases hb with rfl | rfl <;>
    · show wpAny _ _ (field (.ref it) 0 >>= _) _ _ s
      refine wpAny_bind (wpAny_field ho hd (x := .str x t) rfl (show wpAny _ _ (field (.ref it) 1 >>= _) _ _ s from wpAny_bind (wpAny_field ho hd (x := .int i 0) rfl ?_)))
      simp only [Int.toNat_natCast, hx]
      refine wpAny_bind (wpAny_rule (wpAny_bind (wpAny_setField ho hd (by simp) (wpAny_bind (wpAny_letGo (show wpAny _ _ (newExc (.type "StopIteration") [] >>= _) _ _ _ from wpAny_bind ?_))))))
      simp only [newExc, newTuple]
      refine wpAny_bind (wpAny_newObj_type (wpAny_bind (m := firstArgMember _ _) (wpAny_of_eq (a := Value.none) (by first | rfl | (simp only [firstArgMember]; rfl)) (wpAny_newObj_type ?_ (by size_fits)))) (by size_fits))
      simp only [raiseNew]
      refine wpAny_bind (wpAny_handled ?_)
      first | rw [show A.in1.handled = none from hh] | rw [hh]
      exact wpAny_bind (wpAny_pure (wpAny_throw (hE _ _ (((Heap.SameBut.update ..).extBut.push _).push _) ⟨_, Heap.get?_push_size _ rfl, rfl⟩)))
  at_ := fun i h h' ⟨o, ho, r⟩ k => ⟨o, k o ho, r⟩
  lt := fun i h ⟨o, ho, _⟩ => Heap.lt_size ho
theorem nx_str {ty : String} (hty : ty = "str_ascii_iterator" ∨ ty = "str_iterator") (hh : A.handled = none) (it : Addr) (x : Str) (t : Tok) : Nx prog w A it x.cps.size (SignAt x) (SIt it ty x t) := by
  rcases hty with rfl | rfl
  · exact nx_str_aux F.slot_str_ascii_iterator_next F.entry_str_ascii_iterator_next F.args_str_ascii_iterator_next_1 (by first | exact .inl rfl | exact .inr rfl) hh it x t
  · exact nx_str_aux F.slot_str_iterator_next F.entry_str_iterator_next F.args_str_iterator_next_1 (by first | exact .inl rfl | exact .inr rfl) hh it x t

/-- the five records of a zip stand apart -/
structure Ap (z TI TO i1 i2 : Addr) : Prop where
  a : TI ≠ z
  b : TO ≠ z
  c : i1 ≠ z
  d : i2 ≠ z
  e : TI ≠ TO
  f : TI ≠ i1
  g : TI ≠ i2
  h : TO ≠ i1
  i : TO ≠ i2
  j : i1 ≠ i2
variable {n1 n2 : Nat} {v1 v2 : Nat → Value → Prop} {s1 s2 : Nat → Heap → Prop} {z TI TO i1 i2 : Addr} {E : Value → Shared → Prop} {s : Shared} {k : Nat}
theorem Nx.move {it c : Addr} {n : Nat} {v : Nat → Value → Prop} {st : Nat → Heap → Prop} (N : Nx prog w A it n v st) {h h' : Heap} {i : Nat} (x : st i h) (ne : it ≠ c) (e : Heap.ExtBut c h h') : st i h' := N.at_ i h h' x fun o q => e it o ne q
theorem item {Q : Option Value → Shared → Prop} (N1 : ∀ A' : Around, A'.handled = none → Nx prog w A' i1 n1 v1 s1) (N2 : ∀ A' : Around, A'.handled = none → Nx prog w A' i2 n2 v2 s2) (hh : A.handled = none) (D : Ap z TI TO i1 i2)
    (hz : IsZip s.heap z TI TO .none) (hTI : IsPair s.heap TI (.ref i1) (.ref i2)) {a b : Value} (hTO : IsPair s.heap TO a b) (h1 : s1 k s.heap) (h2 : s2 k s.heap) (l1 : k < n1) (l2 : k < n2)
    (hQ : ∀ x y h' tk, v1 k x → v2 k y → IsZip h' z TI TO (rawInt s.heap.objs.size) → IsPair h' TO x y → s1 (k + 1) h' → s2 (k + 1) h' → IsPair h' s.heap.objs.size x y → h'.objs.size = s.heap.objs.size + 1 →
      (∀ c o, c ≠ z → c ≠ TO → c ≠ i1 → c ≠ i2 → s.heap.get? c = some o → h'.get? c = some o) → Q (some (.ref s.heap.objs.size)) { s with heap := h', toks := tk }) : wpAny (model prog w) A (pyNext (.ref z)) Q E s := by
  have hT : s.TypeIs (.ref z) "zip" := ⟨_, hz, rfl⟩
  unfold pyNext
  refine wpAny_bind (wpAny_attempt (wpAny_callSpecial?_slot (name := Str.ofString "__next__") hT F.slot_zip_next (wpAny_call_entry F.slot_zip_next hT F.entry_zip_next ?_ (F.args_zip_next_1 _))))
  refine show wpAny _ _ (field (.ref z) 2 >>= _) _ _ _ from wpAny_bind (wpAny_field hz rfl (x := .bool false) rfl ?_)
  refine show wpAny _ _ (field (.ref z) 3 >>= _) _ _ _ from wpAny_bind (wpAny_field hz rfl (x := .ref TI) rfl (wpAny_bind (wpAny_seqItems hTI rfl ?_)))
  refine show wpAny _ _ (Builtin.SmallTypes.ownedTupleIsFree (.ref z) >>= _) _ _ _ from wpAny_bind ?_
  unfold Builtin.SmallTypes.ownedTupleIsFree
  refine wpAny_bind (wpAny_field hz rfl (x := .none) rfl (wpAny_pure ?_))
  simp only [if_true]
  refine wpAny_bind (wpAny_rule (wpAny_bind (wpAny_field hz rfl (x := .ref TO) rfl (wpAny_bind (wpAny_setField_rec hz (by simp) fun g1 (z1 : IsZip g1 z TI TO .ellipsis) q1 => wpAny_bind ?_)))))
  simp only [List.zipIdx_cons, List.zipIdx_nil, List.forIn_cons, List.forIn_nil]
  refine wpAny_bind (wpAny_bind (wpAny_onRaise (show wpAny _ _ (Builtin.SmallTypes.nextOf (.ref i1) >>= _) _ _ _ from wpAny_bind ((N1 _ (by first | exact hh | (show A.in1.handled = none; exact hh))).item _ _ k _ ((N1 A hh).move h1 D.c q1.extBut) l1 fun x g2 tk2 vx p2 q2 => wpAny_pure ?_))))
  have o2 : IsPair g2 TO a b := q2.extBut _ _ D.h (q1.extBut _ _ D.b hTO)
  refine wpAny_bind (wpAny_seqItems o2 rfl (wpAny_bind (wpAny_updateSeq_pair o2 fun g3 (o3 : IsPair g3 TO x b) q3 => wpAny_bind (wpAny_letGo (wpAny_pure ?_)))))
  have p13 : s1 (k + 1) g3 := (N1 A hh).move p2 D.h.symm q3.extBut
  have p23 : s2 k g3 := (N2 A hh).move ((N2 A hh).move ((N2 A hh).move h2 D.d q1.extBut) D.j.symm q2.extBut) D.i.symm q3.extBut
  refine wpAny_bind (wpAny_bind (wpAny_onRaise (show wpAny _ _ (Builtin.SmallTypes.nextOf (.ref i2) >>= _) _ _ _ from wpAny_bind ((N2 _ (by first | exact hh | (show A.in1.handled = none; exact hh))).item _ _ k _ p23 l2 fun y g4 tk4 vy p4 q4 => wpAny_pure ?_))))
  have o4 : IsPair g4 TO x b := q4.extBut _ _ D.i o3
  refine wpAny_bind (wpAny_seqItems o4 rfl (wpAny_bind (wpAny_updateSeq_pair o4 fun g5 (o5 : IsPair g5 TO x y) q5 => ?_)))
  refine wpAny_bind (wpAny_letGo (wpAny_pure (wpAny_pure ?_)))
  refine wpAny_bind (wpAny_seqItems o5 rfl (wpAny_bind (wpAny_newTuple ?_)))
  have hsz : g5.objs.size = s.heap.objs.size := by rw [q5.1, q4.1, q3.1, q2.1, q1.1]
  have z5 : IsZip g5 z TI TO .ellipsis := q5.extBut _ _ D.b.symm (q4.extBut _ _ D.d.symm (q3.extBut _ _ D.b.symm (q2.extBut _ _ D.c.symm z1)))
  have keep5 : ∀ c o, c ≠ z → c ≠ TO → c ≠ i1 → c ≠ i2 → s.heap.get? c = some o → g5.get? c = some o := fun c o c1 c2 c3 c4 e => q5.extBut _ _ c2 (q4.extBut _ _ c4 (q3.extBut _ _ c2 (q2.extBut _ _ c3 (q1.extBut _ _ c1 e))))
  have p15 : s1 (k + 1) g5 := (N1 A hh).move ((N1 A hh).move p13 D.j q4.extBut) D.h.symm q5.extBut
  have p25 : s2 (k + 1) g5 := (N2 A hh).move p4 D.i.symm q5.extBut
  have zlt : z < g5.objs.size := Heap.lt_size z5
  refine show wpAny _ _ (Builtin.SmallTypes.ownedTupleHandOut (.ref z) (.ref g5.objs.size) >>= _) _ _ _ from wpAny_bind ?_
  unfold Builtin.SmallTypes.ownedTupleHandOut
  have z6 : IsZip (g5.push { cls := .type "tuple", data := .seq #[x, y] }) z TI TO .ellipsis := Heap.get?_push_of_some _ z5
  refine wpAny_bind (wpAny_setField_rec z6 (by simp) fun g7 (z7 : IsZip g7 z TI TO (rawInt g5.objs.size)) q7 => wpAny_setField_rec z7 (by simp) fun g8 (z8 : IsZip g8 z TI TO (rawInt g5.objs.size)) q8 => ?_)
  have up : ∀ c o, c ≠ z → g5.get? c = some o → g8.get? c = some o := fun c o c1 e => q8.extBut _ _ c1 (q7.extBut _ _ c1 (Heap.get?_push_of_some _ e))
  have t8 : IsPair g8 g5.objs.size x y := q8.extBut _ _ (Nat.ne_of_gt zlt) (q7.extBut _ _ (Nat.ne_of_gt zlt) (Heap.get?_push_size _ rfl))
  have sz8 : g8.objs.size = g5.objs.size + 1 := by rw [q8.1, q7.1, Heap.size_push]
  rw [hsz] at z8 t8 sz8
  refine wpAny_pure ⟨_, rfl, wpAny_pure ?_⟩
  show Q (some (.ref g5.objs.size)) _
  rw [hsz]
  exact hQ x y g8 _ vx vy z8 (up _ _ D.b o5) ((N1 A hh).at_ _ _ _ p15 fun o e => up _ o D.c e) ((N2 A hh).at_ _ _ _ p25 fun o e => up _ o D.d e) t8 sz8 fun c o c1 c2 c3 c4 e => up c o c1 (keep5 c o c1 c2 c3 c4 e)
theorem over {Q : Option Value → Shared → Prop} (N1 : ∀ A' : Around, A'.handled = none → Nx prog w A' i1 n1 v1 s1) (N2 : ∀ A' : Around, A'.handled = none → Nx prog w A' i2 n2 v2 s2) (hh : A.handled = none) (D : Ap z TI TO i1 i2)
    (hz : IsZip s.heap z TI TO .none) (hTI : IsPair s.heap TI (.ref i1) (.ref i2)) {a b : Value} (hTO : IsPair s.heap TO a b) (h1 : s1 k s.heap) (h2 : s2 k s.heap) (l : n1 ≤ k ∨ n2 ≤ k)
    (hQ : ∀ h' tk, (∀ c o, c ≠ z → c ≠ TO → c ≠ i1 → c ≠ i2 → s.heap.get? c = some o → h'.get? c = some o) → Q none { s with heap := h', toks := tk }) : wpAny (model prog w) A (pyNext (.ref z)) Q E s := by
  have hT : s.TypeIs (.ref z) "zip" := ⟨_, hz, rfl⟩
  have fin : ∀ (h' : Heap) (tk : Nat) (e : Addr), (∀ c o, c ≠ z → c ≠ TO → c ≠ i1 → c ≠ i2 → s.heap.get? c = some o → h'.get? c = some o) → (∃ o, h'.get? e = some o ∧ o.cls = .type "StopIteration") →
      wpAny (model prog w) A (isInstance (.ref e) (.type "StopIteration")) (fun b s' => b = true ∧ Q none s') E { s with heap := h', toks := tk } := fun h' tk e kk ⟨o, ho, hc⟩ => wpAny_isInstance (T := "StopIteration") (b := true) ⟨o, ho, hc⟩ isSubtype_stop ⟨rfl, hQ _ _ kk⟩
  unfold pyNext
  refine wpAny_bind (wpAny_attempt (wpAny_callSpecial?_slot (name := Str.ofString "__next__") hT F.slot_zip_next (wpAny_call_entry F.slot_zip_next hT F.entry_zip_next ?_ (F.args_zip_next_1 _))))
  refine show wpAny _ _ (field (.ref z) 2 >>= _) _ _ _ from wpAny_bind (wpAny_field hz rfl (x := .bool false) rfl ?_)
  refine show wpAny _ _ (field (.ref z) 3 >>= _) _ _ _ from wpAny_bind (wpAny_field hz rfl (x := .ref TI) rfl (wpAny_bind (wpAny_seqItems hTI rfl ?_)))
  refine show wpAny _ _ (Builtin.SmallTypes.ownedTupleIsFree (.ref z) >>= _) _ _ _ from wpAny_bind ?_
  unfold Builtin.SmallTypes.ownedTupleIsFree
  refine wpAny_bind (wpAny_field hz rfl (x := .none) rfl (wpAny_pure ?_))
  simp only [if_true]
  refine wpAny_bind (wpAny_rule (wpAny_bind (wpAny_field hz rfl (x := .ref TO) rfl (wpAny_bind (wpAny_setField_rec hz (by simp) fun g1 (z1 : IsZip g1 z TI TO .ellipsis) q1 => wpAny_bind ?_)))))
  simp only [List.zipIdx_cons, List.zipIdx_nil, List.forIn_cons, List.forIn_nil]
  by_cases hk : k < n1
  · have hk2 : n2 ≤ k := by omega
    refine wpAny_bind (wpAny_bind (wpAny_onRaise (show wpAny _ _ (Builtin.SmallTypes.nextOf (.ref i1) >>= _) _ _ _ from wpAny_bind ((N1 _ (by first | exact hh | (show A.in1.handled = none; exact hh))).item _ _ k _ ((N1 A hh).move h1 D.c q1.extBut) hk fun x g2 tk2 vx p2 q2 => wpAny_pure ?_))))
    have o2 : IsPair g2 TO a b := q2.extBut _ _ D.h (q1.extBut _ _ D.b hTO)
    refine wpAny_bind (wpAny_seqItems o2 rfl (wpAny_bind (wpAny_updateSeq_pair o2 fun g3 (o3 : IsPair g3 TO x b) q3 => wpAny_bind (wpAny_letGo (wpAny_pure ?_)))))
    have p23 : s2 k g3 := (N2 A hh).move ((N2 A hh).move ((N2 A hh).move h2 D.d q1.extBut) D.j.symm q2.extBut) D.i.symm q3.extBut
    refine wpAny_bind (wpAny_bind (wpAny_onRaise (show wpAny _ _ (Builtin.SmallTypes.nextOf (.ref i2) >>= _) _ _ _ from wpAny_bind ((N2 _ (by first | exact hh | (show A.in1.handled = none; exact hh))).done _ _ k _ p23 hk2 fun g4 e q4 ⟨oe, hoe, hce⟩ => ?_))))
    have z4 : IsZip g4 z TI TO .ellipsis := q4 _ _ D.d.symm (q3.extBut _ _ D.b.symm (q2.extBut _ _ D.c.symm z1))
    have ez : e ≠ z := fun x => by subst x; rw [z4] at hoe; cases hoe; simp at hce
    refine wpAny_setField_rec z4 (by simp) fun g5 _ q5 => ?_
    refine wpAny_bind (thn (fin g5 _ e (fun c o c1 c2 c3 c4 x => q5.extBut _ _ c1 (q4 _ _ c4 (q3.extBut _ _ c2 (q2.extBut _ _ c3 (q1.extBut _ _ c1 x))))) ⟨oe, q5.extBut _ _ ez hoe, hce⟩) fun b s' ⟨hb, hq⟩ => ?_)
    subst hb
    exact wpAny_pure hq
  · refine wpAny_bind (wpAny_bind (wpAny_onRaise (show wpAny _ _ (Builtin.SmallTypes.nextOf (.ref i1) >>= _) _ _ _ from wpAny_bind ((N1 _ (by first | exact hh | (show A.in1.handled = none; exact hh))).done _ _ k _ ((N1 A hh).move h1 D.c q1.extBut) (by omega) fun g4 e q4 ⟨oe, hoe, hce⟩ => ?_))))
    have z4 : IsZip g4 z TI TO .ellipsis := q4 _ _ D.c.symm z1
    have ez : e ≠ z := fun x => by subst x; rw [z4] at hoe; cases hoe; simp at hce
    refine wpAny_setField_rec z4 (by simp) fun g5 _ q5 => ?_
    refine wpAny_bind (thn (fin g5 _ e (fun c o c1 c2 c3 c4 x => q5.extBut _ _ c1 (q4 _ _ c3 (q1.extBut _ _ c1 x))) ⟨oe, q5.extBut _ _ ez hoe, hce⟩) fun b s' ⟨hb, hq⟩ => ?_)
    subst hb
    exact wpAny_pure hq
end
end DLZ

set_option maxRecDepth 100000
set_option maxHeartbeats 8000000
namespace DLZ
open PySem PySem.Spec PyProof.Rows L2
open PySem.Sem (wp)
def tyS (x : Str) : String := if x.cps.all (· < 128) = true then "str_ascii_iterator" else "str_iterator"
theorem tyS_or (x : Str) : tyS x = "str_ascii_iterator" ∨ tyS x = "str_iterator" := by
  unfold tyS
  split
  · exact .inl rfl
  · exact .inr rfl
abbrev itO (x : Str) (t : Tok) : Obj := { cls := .type (tyS x), data := .fields #[.str x t, .int 0 0] }
section
variable {prog : Program} {w : World} {A : Around} {E : Value → Shared → Prop} {s : Shared}
theorem iterS {x : Str} {t : Tok} {Q : Value → Shared → Prop} (hQ : Q (.ref s.heap.objs.size) { s with heap := s.heap.push (itO x t) }) : wpAny (model prog w) A (pyIter (.str x t)) Q E s := by
  cases h : x.cps.all (· < 128) with
  | true =>
    have e : tyS x = "str_ascii_iterator" := by unfold tyS; rw [h]; rfl
    unfold itO at hQ; rw [e] at hQ
    exact wpAny_pyIter_ascii h hQ
  | false =>
    have e : tyS x = "str_iterator" := by unfold tyS; rw [h]; rfl
    unfold itO at hQ; rw [e] at hQ
    exact wpAny_pyIter_wide h hQ
abbrev g1 (h : Heap) (x : Str) (t : Tok) : Heap := h.push (itO x t)
abbrev g2 (h : Heap) (x y : Str) (t u : Tok) : Heap := (g1 h x t).push (itO y u)
abbrev g3 (h : Heap) (x y : Str) (t u : Tok) : Heap := (g2 h x y t u).push { cls := .type "tuple", data := .seq #[.ref h.objs.size, .ref (g1 h x t).objs.size] }
abbrev g4 (h : Heap) (x y : Str) (t u : Tok) : Heap := (g3 h x y t u).push { cls := .type "tuple", data := .seq #[.none, .none] }
abbrev g5 (h : Heap) (x y : Str) (t u : Tok) : Heap := (g4 h x y t u).push { cls := .type "zip", data := .fields #[.none, .bool false, .bool false, .ref (g2 h x y t u).objs.size, .ref (g3 h x y t u).objs.size] }
theorem meets_new (x y : Str) (t u : Tok) : Meets (Builtin.«zip.__new__» ⟨[.type "zip", .str x t, .str y u], []⟩) (fun _ R s => R (.ok (.ret (.ref (g4 s.heap x y t u).objs.size))) { s with heap := g5 s.heap x y t u }) :=
  .of_wp fun prog w A R s h => by
    obtain ⟨hp, g, d, tk, os⟩ := s
    have hsub := sub_zip
    wp_walk using iterS, iterS
    exact ⟨_, rfl, h⟩
theorem call_zipS {x y : Str} {t u : Tok} {Q : Value → Shared → Prop}
    (h : ∀ h', IsZip h' (s.heap.objs.size + 4) (s.heap.objs.size + 2) (s.heap.objs.size + 3) .none → IsPair h' (s.heap.objs.size + 2) (.ref s.heap.objs.size) (.ref (s.heap.objs.size + 1)) →
      IsPair h' (s.heap.objs.size + 3) .none .none → h'.IsStrIter s.heap.objs.size (tyS x) x t 0 → h'.IsStrIter (s.heap.objs.size + 1) (tyS y) y u 0 →
      (∀ c o, s.heap.get? c = some o → h'.get? c = some o) → Q (.ref (s.heap.objs.size + 4)) { s with heap := h' }) :
    wpAny (model prog w) A (call (.type "zip") [.str x t, .str y u]) Q E s := by
  refine callType_new F.called_zip (by decide) (F.typeCall_zip_2 _ _) (F.newCall_zip_2 _ _) (fun obj => F.args_object_init_3 obj _ _) F.entry_zip_new (meets_new x y t u) ?_
  have z1 : (g1 s.heap x t).objs.size = s.heap.objs.size + 1 := Heap.size_push ..
  have z2 : (g2 s.heap x y t u).objs.size = s.heap.objs.size + 2 := by rw [Heap.size_push, z1]
  have z3 : (g3 s.heap x y t u).objs.size = s.heap.objs.size + 3 := by rw [Heap.size_push, z2]
  have z4 : (g4 s.heap x y t u).objs.size = s.heap.objs.size + 4 := by rw [Heap.size_push, z3]
  have p5 : (g5 s.heap x y t u).get? (g4 s.heap x y t u).objs.size = some _ := Heap.get?_push_size _ rfl
  have p4 : (g5 s.heap x y t u).get? (g3 s.heap x y t u).objs.size = some _ := Heap.get?_push_of_some _ (Heap.get?_push_size _ rfl)
  have p3 : (g5 s.heap x y t u).get? (g2 s.heap x y t u).objs.size = some _ := Heap.get?_push_of_some _ (Heap.get?_push_of_some _ (Heap.get?_push_size _ rfl))
  have p2 : (g5 s.heap x y t u).get? (g1 s.heap x t).objs.size = some _ := Heap.get?_push_of_some _ (Heap.get?_push_of_some _ (Heap.get?_push_of_some _ (Heap.get?_push_size _ rfl)))
  have p1 : (g5 s.heap x y t u).get? s.heap.objs.size = some _ := Heap.get?_push_of_some _ (Heap.get?_push_of_some _ (Heap.get?_push_of_some _ (Heap.get?_push_of_some _ (Heap.get?_push_size _ rfl))))
  show _ ∧ _
  rw [z2, z3, z4] at p5
  rw [z1, z2] at p3
  rw [z3] at p4
  rw [z1] at p2
  rw [z4]
  exact ⟨⟨_, p5, rfl⟩, h _ p5 p3 p4 ⟨_, p1, rfl, rfl⟩ ⟨_, p2, rfl, rfl⟩ fun c o q => Heap.get?_push_of_some _ (Heap.get?_push_of_some _ (Heap.get?_push_of_some _ (Heap.get?_push_of_some _ (Heap.get?_push_of_some _ q))))⟩
end
theorem ap_of (n : Nat) : Ap (n + 4 : Nat) (n + 2 : Nat) (n + 3 : Nat) n (n + 1 : Nat) := by
  constructor
  · show (n + 2 : Nat) ≠ n + 4; omega
  · show (n + 3 : Nat) ≠ n + 4; omega
  · show (n : Nat) ≠ n + 4; omega
  · show (n + 1 : Nat) ≠ n + 4; omega
  · show (n + 2 : Nat) ≠ n + 3; omega
  · show (n + 2 : Nat) ≠ n; omega
  · show (n + 2 : Nat) ≠ n + 1; omega
  · show (n + 3 : Nat) ≠ n; omega
  · show (n + 3 : Nat) ≠ n + 1; omega
  · show (n : Nat) ≠ n + 1; omega
/-! ### the walk -/
def ItzS (x y : Str) : It :=
  ⟨fun i _ => i < x.cps.size ∧ i < y.cps.size, fun i H v H' => ∃ T c d, v = .ref T ∧ H T = none ∧ H' = upd H T (.tup [.str ⟨#[c]⟩, .str ⟨#[d]⟩]) ∧ x.cps[i]? = some c ∧ y.cps[i]? = some d, fun i _ => x.cps.size ≤ i ∨ y.cps.size ≤ i⟩
theorem turn_zipS {P : Program} {w : World} {K : PySem.W.Frag} {elts : List Expr} {kk : Nat} {tpos : Pos} {z TI TO i1 i2 : Addr} {x y : Str} {t u : Tok} (D : Ap z TI TO i1 i2) :
    Turn P w K (.Tuple elts kk tpos) (ItzS x y) [z, TI, TO, i1, i2] z (fun i h => IsZip h z TI TO .none ∧ IsPair h TI (.ref i1) (.ref i2) ∧ (∃ a b, IsPair h TO a b) ∧ h.IsStrIter i1 (tyS x) x t i ∧ h.IsStrIter i2 (tyS y) y u i) where
  mem := by simp
  obj := fun i h ⟨hz, hTI, ⟨a, b, hTO⟩, ⟨o1, e1, _, d1⟩, ⟨o2, e2, _, d2⟩⟩ c hc => by
    rcases (by simpa using hc : c = z ∨ c = TI ∨ c = TO ∨ c = i1 ∨ c = i2) with q | q | q | q | q <;> rw [q]
    · exact ⟨_, hz, fun v q => nomatch q⟩
    · exact ⟨_, hTI, fun v q => nomatch q⟩
    · exact ⟨_, hTO, fun v q => nomatch q⟩
    · exact ⟨o1, e1, fun v q => by rw [d1] at q; cases q⟩
    · exact ⟨o2, e2, fun v q => by rw [d2] at q; cases q⟩
  keep := fun i h h' ⟨hz, hTI, ⟨a, b, hTO⟩, ⟨o1, e1, r1⟩, ⟨o2, e2, r2⟩⟩ k =>
    ⟨k z (by simp) _ hz, k TI (by simp) _ hTI, ⟨a, b, k TO (by simp) _ hTO⟩, ⟨o1, k i1 (by simp) _ e1, r1⟩, ⟨o2, k i2 (by simp) _ e2, r2⟩⟩
  item := by
    intro X hP hw hK hc i pins s σ H E I hf ⟨hz, hTI, ⟨a, b, hTO⟩, h1, h2⟩ ⟨l1, l2⟩
    subst hP hw hK
    have hzl : z < s.heap.objs.size := Heap.lt_size hz
    refine DLZ.item (fun A' hA => nx_str (tyS_or x) hA i1 x t) (fun A' hA => nx_str (tyS_or y) hA i2 y u) (I.ok.hd hc) D hz hTI hTO h1 h2 l1 l2 fun c d h' tk hv1 hv2 z' TO' h1' h2' hT hsz hk => ?_
    obtain ⟨c, tc, ec, rfl⟩ := hv1
    obtain ⟨d, td, ed, rfl⟩ := hv2
    refine ⟨_, rfl, wpAny_letOwnedTupleGo_zip (s := { s with heap := h', toks := tk }) z' fun h'' z'' sb => ?_⟩
    have hT2 : h''.get? s.heap.objs.size = some { cls := .type "tuple", data := .seq #[.str ⟨#[c]⟩ tc, .str ⟨#[d]⟩ td] } := (sb.2 _ (Nat.ne_of_gt hzl)).trans hT
    have new : ObjOk X.prog X.w (upd H s.heap.objs.size (.tup [.str ⟨#[c]⟩, .str ⟨#[d]⟩])) h'' s.heap.objs.size (.tup [.str ⟨#[c]⟩, .str ⟨#[d]⟩]) :=
      ⟨by show 2 ≤ sizeLine; decide, [.str ⟨#[c]⟩ tc, .str ⟨#[d]⟩ td], .cons ⟨tc, rfl⟩ (.cons ⟨td, rfl⟩ .nil), ⟨_, hT2, rfl, _, rfl⟩⟩
    have I1 : Inv X pins σ (upd H s.heap.objs.size (.tup [.str ⟨#[c]⟩, .str ⟨#[d]⟩])) { s with heap := h'', toks := tk } :=
      I.turnedNew (t' := tk) (ch := [z, TI, TO, i1, i2]) (fun c o hb q => (sb.2 c (fun q' => hb (by simp [q']))).trans (hk c o (fun q' => hb (by simp [q'])) (fun q' => hb (by simp [q'])) (fun q' => hb (by simp [q'])) (fun q' => hb (by simp [q'])) q)) hf (Nat.le_refl _) new
    refine ⟨.ref s.heap.objs.size, _, I1, rfl, ⟨_, c, d, rfl, I.hok.fresh (Nat.le_refl _), rfl, ec, ed⟩, ⟨z'', ?_, ⟨.str ⟨#[c]⟩ tc, .str ⟨#[d]⟩ td, (sb.2 _ D.b).trans TO'⟩, ?_, ?_⟩, fun e he => ?_⟩
    · exact (sb.2 _ D.a).trans (hk _ _ D.a D.e D.f D.g hTI)
    · exact (nx_str (prog := X.prog) (w := X.w) (tyS_or x) (I.ok.hd hc) i1 x t).at_ _ _ _ h1' fun o q => (sb.2 _ D.c).trans q
    · exact (nx_str (prog := X.prog) (w := X.w) (tyS_or y) (I.ok.hd hc) i2 y u).at_ _ _ _ h2' fun o q => (sb.2 _ D.d).trans q
    · have hlt : e < s.heap.objs.size := by
        obtain ⟨_, e1, _⟩ := h1
        obtain ⟨_, e2, _⟩ := h2
        rcases (by simpa using he : e = z ∨ e = TI ∨ e = TO ∨ e = i1 ∨ e = i2) with q | q | q | q | q <;> rw [q]
        · exact hzl
        · exact Heap.lt_size hTI
        · exact Heap.lt_size hTO
        · exact Heap.lt_size e1
        · exact Heap.lt_size e2
      rw [upd_ne (Nat.ne_of_lt hlt)]
      exact (hf e he).1
  done := by
    intro X hP hw hK hc i pins s σ H E I hf ⟨hz, hTI, ⟨a, b, hTO⟩, h1, h2⟩ hend
    subst hP hw hK
    exact DLZ.over (fun A' hA => nx_str (tyS_or x) hA i1 x t) (fun A' hA => nx_str (tyS_or y) hA i2 y u) (I.ok.hd hc) D hz hTI hTO h1 h2 hend fun h' tk hk =>
      ⟨rfl, I.turnedL (t' := tk) (ch := [z, TI, TO, i1, i2]) (fun c o hb q => hk c o (fun q' => hb (by simp [q'])) (fun q' => hb (by simp [q'])) (fun q' => hb (by simp [q'])) (fun q' => hb (by simp [q'])) q) hf⟩
  self := fun A i s Q E st h => wpAny_pyIter_zip st.1 h
def iZipS (ta : TA) : TI := fun σ H R => ta σ H fun vs H1 => ∃ x y, vs = [.str x, .str y] ∧ R (ItzS x y) H1
theorem pi_zipS {X : Cx} {e e2 : Expr} {ta : TA} {p pos tpos : Pos} {elts : List Expr} {kk : Nat} (hg : Gl X "zip") (hm : X.mg "zip" = none) (ha : PA X [e, e2] ta)
    (hs : starEach [e, e2] X.env = (false, eval e X.env) :: starEach [e2] X.env := by rfl) (hpl : (backTo pos (starEach [e2] X.env)).any (·.1) = false := by rfl) :
    PI X (.Tuple elts kk tpos) (.Call (.Name "zip" p) [e, e2] [] pos) (iZipS ta) := by
  refine ⟨fun pins s σ H R I h => Call_ (ld_blt I hg hm PyProof.Rows.boot_zip (PyProof.Rows.callWith_type1 (thn (ha.run pos pins s σ H _ I h) fun us s1 ⟨vs, H1, I1, r1, q1⟩ => ?_) hs hpl))⟩
  obtain ⟨x, y, rfl, q⟩ := q1
  obtain ⟨u1, u2, rfl, ⟨t, rfl⟩, ⟨u, rfl⟩⟩ := vals2 r1
  refine call_zipS fun h' hz hTI hTO h1 h2 hk => wpAny_pyIter_zip hz ?_
  have I2 : Inv X pins σ H1 { s1 with heap := h' } := I1.kept (t' := s1.toks) hk
  have lt := I1.lt
  refine ⟨s1.heap.objs.size + 4, [s1.heap.objs.size + 4, s1.heap.objs.size + 2, s1.heap.objs.size + 3, s1.heap.objs.size, s1.heap.objs.size + 1], _, _, H1, rfl, I2,
    turn_zipS (ap_of _), ⟨hz, hTI, ⟨_, _, hTO⟩, h1, h2⟩, fun c hc => ?_, q⟩
  have hle : s1.heap.objs.size ≤ c := by
    rcases (by simpa using hc : c = s1.heap.objs.size + 4 ∨ c = s1.heap.objs.size + 2 ∨ c = s1.heap.objs.size + 3 ∨ c = s1.heap.objs.size ∨ c = s1.heap.objs.size + 1) with q | q | q | q | q <;> rw [q]
    · exact Nat.le_add_right _ _
    · exact Nat.le_add_right _ _
    · exact Nat.le_add_right _ _
    · exact Nat.le_refl _
    · exact Nat.le_add_right _ _
  exact I1.fpOk hle (I1.hok.fresh hle)
end DLZ

set_option maxRecDepth 100000
set_option maxHeartbeats 8000000
namespace DL
open PySem PySem.Spec PyProof.Rows L2

/-! ### statements -/
inductive SRes where
  | nx (ρ : List Sv) (π : Pn)
  | rt (d : Dv) (π : Pn)
  | bk (ρ : List Sv) (π : Pn)
  | ct (ρ : List Sv) (π : Pn)
  | exn (n : Str) (ρ : List Sv) (π : Pn)
  | bad
abbrev SS := List Sv → Pn → SRes
structure StR (M : Md) (W0 : Wd) (H0 : Hp) (W : Wd) (H : Hp) (ρ : List Sv) (π : Pn) (σ : L2.St) : Prop where
  st : StE M W H ρ π σ
  go : Step W0 H0 W H
  new : ∀ (i : Nat) (a : Addr) (ds : List PyData), ρ[i]? = some (.own ds) → σ[i]? = some (some (.ref a)) → H0 a = none
def PostS (M : Md) (W0 : Wd) (H0 : Hp) (B : WX) (F : Hp) (D : Ends) : SRes → Prop
  | .nx ρ' π' => ∀ W' H' σ', StR M W0 H0 W' H' ρ' π' σ' → Same F W'.F → D.nx σ' H'
  | .bk ρ' π' => ∀ W' H' σ', StR M W0 H0 W' H' ρ' π' σ' → Same F W'.F → D.bk σ' H'
  | .ct ρ' π' => ∀ W' H' σ', StR M W0 H0 W' H' ρ' π' σ' → Same F W'.F → D.ct σ' H'
  | .rt d π' => ∀ W' H' v, Step W0 H0 W' H' → PenOk W' H' π' → Same W'.F H' → Rv M W' v d → D.rt v H'
  | .exn n ρ' π' => ∀ W' H' σ' C, StR M W0 H0 W' H' ρ' π' σ' → Same F W'.F → M.mg n = some (.ref C) → B (.ref C) none σ' H'
  | .bad => False
def tS (M : Md) (W0 : Wd) (H0 : Hp) (B : WX) (f : SS) : TS := fun D σ H => ∃ W ρ π, StR M W0 H0 W H ρ π σ ∧ PostS M W0 H0 B W.F D (f ρ π)

section
variable {M : Md} {W0 W W' : Wd} {H0 H H' : Hp} {B : WX} {ρ : List Sv} {π π' : Pn} {σ : L2.St} {D : Ends}
theorem StR.step (r : StR M W0 H0 W H ρ π σ) (s : Step W H W' H') (p : PenOk W' H' π') (sm : Same W'.F H') : StR M W0 H0 W' H' ρ π' σ := ⟨r.st.step s p sm, r.go.trans s, r.new⟩
theorem get_set {α : Type} {l : List α} {i j : Nat} {x y : α} (h : (l.set i x)[j]? = some y) : (i = j ∧ y = x ∧ j < l.length) ∨ (i ≠ j ∧ l[j]? = some y) := by
  by_cases e : i = j
  · subst e
    rw [List.getElem?_set] at h
    simp only [if_true] at h
    split at h
    · cases h; exact .inl ⟨rfl, rfl, by assumption⟩
    · cases h
  · rw [List.getElem?_set_ne e] at h; exact .inr ⟨e, h⟩
theorem StE.set {v : V} {d : Dv} (i : Nat) (r : StE M W H ρ π σ) (rv : Rv M W v d) : StE M W H (ρ.set i (.val d)) π (σ.set i (some v)) where
  same := r.same
  pen := r.pen
  tbe := r.tbe
  len := by simp [r.len]
  sl := fun j s e => by
    rcases get_set e with ⟨rfl, rfl, hl⟩ | ⟨ne, e⟩
    · exact ⟨some v, by rw [List.getElem?_set_self (by rw [← r.len]; exact hl)], .val rv⟩
    · obtain ⟨o, h1, h2⟩ := r.sl j s e
      exact ⟨o, by rw [List.getElem?_set_ne ne]; exact h1, h2⟩
  apart := fun j k a ds es e1 e2 e3 e4 => by
    rcases get_set e1 with ⟨_, z, _⟩ | ⟨n1, e1⟩
    · cases z
    · rcases get_set e2 with ⟨_, z, _⟩ | ⟨n2, e2⟩
      · cases z
      · rw [List.getElem?_set_ne n1] at e3
        rw [List.getElem?_set_ne n2] at e4
        exact r.apart j k a ds es e1 e2 e3 e4
theorem StR.set {v : V} {d : Dv} (i : Nat) (r : StR M W0 H0 W H ρ π σ) (rv : Rv M W v d) : StR M W0 H0 W H (ρ.set i (.val d)) π (σ.set i (some v)) :=
  ⟨r.st.set i rv, r.go, fun j a ds e1 e2 => by
    rcases get_set e1 with ⟨_, z, _⟩ | ⟨n1, e1⟩
    · cases z
    · rw [List.getElem?_set_ne n1] at e2; exact r.new j a ds e1 e2⟩
theorem StR.setOwn {a : Addr} {xs : List V} {ds : List PyData} (i : Nat) (r : StR M W0 H0 W H ρ π σ) (s : Step W H W' H') (p : PenOk W' H' π') (sm : Same W'.F H') (n : H a = none) (nf : W'.F a = none) (np : W'.pa ≠ some a) (e : H' a = some (.lst xs))
    (z : xs.length ≤ sizeLine) (q : DqAll W'.F xs ds) : StR M W0 H0 W' H' (ρ.set i (.own ds)) π' (σ.set i (some (.ref a))) := by
  have t := r.step s p sm
  have old : ∀ (j : Nat) (b : Addr) (es : List PyData), ρ[j]? = some (.own es) → σ[j]? = some (some (.ref b)) → b ≠ a := fun j b es h1 h2 h3 => by
    obtain ⟨o, h4, h5⟩ := r.st.sl j _ h1
    rw [h2] at h4; cases h4
    cases h5 with
    | own _ _ h6 _ _ => rw [h3, n] at h6; cases h6
  refine ⟨⟨t.st.same, t.st.pen, t.st.tbe, by simp [t.st.len], fun j s' h => ?_, fun j k b es fs h1 h2 h3 h4 => ?_⟩, t.go, fun j b es h1 h2 => ?_⟩
  · rcases get_set h with ⟨rfl, rfl, hl⟩ | ⟨ne, h⟩
    · exact ⟨_, by rw [List.getElem?_set_self (by rw [← r.st.len]; exact hl)], .own nf np e z q⟩
    · obtain ⟨o, h1, h2⟩ := t.st.sl j s' h
      exact ⟨o, by rw [List.getElem?_set_ne ne]; exact h1, h2⟩
  · rcases get_set h1 with ⟨e1, _, hl1⟩ | ⟨n1, h1⟩
    · subst e1
      rw [List.getElem?_set_self (by rw [← r.st.len]; exact hl1)] at h3
      cases h3
      rcases get_set h2 with ⟨e2, _, _⟩ | ⟨n2, h2⟩
      · exact e2
      · rw [List.getElem?_set_ne n2] at h4
        exact absurd rfl (old k _ _ h2 h4)
    · rw [List.getElem?_set_ne n1] at h3
      rcases get_set h2 with ⟨e2, _, hl2⟩ | ⟨n2, h2⟩
      · subst e2
        rw [List.getElem?_set_self (by rw [← r.st.len]; exact hl2)] at h4
        cases h4
        exact absurd rfl (old j _ _ h1 h3)
      · rw [List.getElem?_set_ne n2] at h4
        exact t.st.apart j k b es fs h1 h2 h3 h4
  · rcases get_set h1 with ⟨e1, _, hl1⟩ | ⟨n1, h1⟩
    · subst e1
      rw [List.getElem?_set_self (by rw [← r.st.len]; exact hl1)] at h2
      cases h2
      exact r.go.there _ n
    · rw [List.getElem?_set_ne n1] at h2
      exact r.new j b es h1 h2
/-- a held list is written -/
theorem StR.write {a : Addr} {ys : List V} {ds es : List PyData} {i : Nat} (r : StR M W0 H0 W H ρ π σ) (h1 : ρ[i]? = some (.own ds)) (h2 : σ[i]? = some (some (.ref a))) (z : ys.length ≤ sizeLine) (q : DqAll W.F ys es) :
    StR M W0 H0 W (upd H a (.lst ys)) (ρ.set i (.own es)) π σ := by
  have ha := r.new i a ds h1 h2
  obtain ⟨o, h3, h4⟩ := r.st.sl i _ h1
  rw [h2] at h3; cases h3
  cases h4 with
  | own nf np he _ _ =>
    have hi : i < ρ.length := by
      by_cases h : i < ρ.length
      · exact h
      · rw [List.getElem?_eq_none (by omega)] at h1; cases h1
    refine ⟨⟨fun b u x => ?_, ?_, r.st.tbe, by simp [r.st.len], fun j s' h => ?_, fun j k b es' fs g1 g2 g3 g4 => ?_⟩, ⟨r.go.sub, r.go.grow, fun b u x n k => ?_, fun b x => ?_, r.go.pa, r.go.newpa, r.go.tb⟩, fun j b es' g1 g2 => ?_⟩
    · have : b ≠ a := fun z => by rw [z, nf] at x; cases x
      rw [upd_ne this]; exact r.st.same b u x
    · have pn := r.st.pen
      refine ⟨?_, fun P hP => ⟨(pn.tab P hP).1, (pn.tab P hP).2.upd (tab_ne (pn.tab P hP).2 he .lst)⟩⟩
      cases π with
      | none => exact pn.pen
      | some pe =>
        obtain ⟨b, cb, k1, k2, k3, k4, k5⟩ := pn.pen
        have : b ≠ a := fun z => np (z ▸ k1)
        exact ⟨b, cb, k1, k2, by rw [upd_ne this]; exact k3, k4, k5⟩
    · rcases get_set h with ⟨e1, e2, hl⟩ | ⟨ne, h⟩
      · subst e1 e2
        exact ⟨_, h2, .own nf np upd_same z q⟩
      · obtain ⟨o, g1, g2⟩ := r.st.sl j s' h
        refine ⟨o, g1, ?_⟩
        cases g2 with
        | emp => exact .emp
        | val rv => exact .val rv
        | @own b zs fs f1 f2 f3 f4 f5 =>
          have : b ≠ a := fun z => by
            subst z
            exact ne (r.st.apart i j b ds fs h1 h h2 g1)
          exact .own f1 f2 (by rw [upd_ne this]; exact f3) f4 f5
    · rcases get_set g1 with ⟨e1, e2, hl⟩ | ⟨n1, g1⟩
      · subst e1
        rcases get_set g2 with ⟨e3, _, _⟩ | ⟨n2, g2⟩
        · exact e3
        · exact r.st.apart _ k b ds fs h1 g2 g3 g4
      · rcases get_set g2 with ⟨e3, _, _⟩ | ⟨n2, g2⟩
        · subst e3; exact r.st.apart j _ b es' ds g1 h1 g3 g4
        · exact r.st.apart j k b es' fs g1 g2 g3 g4
    · have : b ≠ a := fun z => by rw [z, ha] at x; cases x
      rw [upd_ne this]; exact r.go.keep b u x n k
    · by_cases h : b = a
      · rw [h]; exact ha
      · rw [upd_ne h] at x; exact r.go.there b x
    · rcases get_set g1 with ⟨e1, e2, hl⟩ | ⟨n1, g1⟩
      · subst e1; rw [h2] at g2; cases g2; exact ha
      · exact r.new j b es' g1 g2
/-- a held list is let go -/
theorem StR.letgo {ds : List PyData} {i : Nat} (r : StR M W0 H0 W H ρ π σ) (h1 : ρ[i]? = some (.own ds)) : ∃ W', StR M W0 H0 W' H (ρ.set i (.val (.val (.list ds)))) π σ ∧ Same W.F W'.F ∧ ∃ a, σ[i]? = some (some (.ref a)) ∧ Dq W'.F (.ref a) (.list ds) := by
  obtain ⟨o, h3, h4⟩ := r.st.sl i _ h1
  cases h4 with
  | @own a xs _ nf np e z q =>
    have ha := r.new i a ds h1 h3
    obtain ⟨t, pn, sm, ss⟩ := DL.letgo r.st.same r.st.pen e .lst nf np r.go ha
    have rv : Dq (upd W.F a (.lst xs)) (.ref a) (.list ds) := .lst upd_same z (q.mono ss)
    refine ⟨⟨upd W.F a (.lst xs), W.pa, W.tb⟩, ⟨⟨sm, pn, r.st.tbe, by simp [r.st.len], fun j s' h => ?_, fun j k b es' fs g1 g2 g3 g4 => ?_⟩, t, fun j b es' g1 g2 => ?_⟩, ss, a, h3, rv⟩
    · rcases get_set h with ⟨e1, e2, hl⟩ | ⟨ne, h⟩
      · subst e1 e2
        exact ⟨_, h3, .val (.val rv)⟩
      · obtain ⟨o, g1, g2⟩ := r.st.sl j s' h
        refine ⟨o, g1, ?_⟩
        cases g2 with
        | emp => exact .emp
        | val rv' =>
          refine .val ?_
          cases rv' with
          | val x => exact .val (x.mono ss)
          | pen x => exact .pen x
          | scr x y => exact .scr (ss.seq x) y
          | err x y => exact .err x (ss _ _ y)
          | dct x y z => exact .dct (ss _ _ x) y (z.mono ss)
          | fn x => exact .fn x
        | @own b zs fs f1 f2 f3 f4 f5 =>
          have : b ≠ a := fun z => by
            subst z
            exact ne (r.st.apart i j b ds fs h1 h h3 g1)
          refine .own ?_ f2 f3 f4 (f5.mono ss)
          show upd W.F a (.lst xs) b = none
          rw [upd_ne this]; exact f1
    · rcases get_set g1 with ⟨e1, e2, hl⟩ | ⟨n1, g1⟩
      · cases e2
      · rcases get_set g2 with ⟨e1, e2, hl⟩ | ⟨n2, g2⟩
        · cases e2
        · exact r.st.apart j k b es' fs g1 g2 g3 g4
    · rcases get_set g1 with ⟨e1, e2, hl⟩ | ⟨n1, g1⟩
      · cases e2
      · exact r.new j b es' g1 g2
theorem PostS.weak {F F' : Hp} {r : SRes} (p : PostS M W0 H0 B F D r) (s : Same F F') : PostS M W0 H0 B F' D r := by
  cases r with
  | nx ρ π => exact fun W' H' σ' h1 h2 => p W' H' σ' h1 (s.trans h2)
  | bk ρ π => exact fun W' H' σ' h1 h2 => p W' H' σ' h1 (s.trans h2)
  | ct ρ π => exact fun W' H' σ' h1 h2 => p W' H' σ' h1 (s.trans h2)
  | rt d π => exact p
  | exn n ρ π => exact fun W' H' σ' C h1 h2 => p W' H' σ' C h1 (s.trans h2)
  | bad => exact p
end

/-- from an expression to a statement -/
def thenS {α : Type} (r : Res α) (ρ : List Sv) (k : α → Pn → SRes) : SRes := match r with
  | .ok a π => k a π
  | .exn n π => .exn n ρ π
  | .bad => .bad
section
variable {X : Cx} {tb : Tb} {W0 : Wd} {H0 : Hp} {B : WX} {M : Md}
theorem thenS_post {α β : Type} {R : Wd → β → α → Prop} {W : Wd} {H : Hp} {ρ : List Sv} {π : Pn} {σ : L2.St} {D : Ends} {r : Res α} {k : α → Pn → SRes} {Q : β → Hp → Prop} (st : StR M W0 H0 W H ρ π σ) (p : PostS M W0 H0 B W.F D (thenS r ρ k))
    (h : ∀ a π' W' H' v, Step W H W' H' → StR M W0 H0 W' H' ρ π' σ → R W' v a → PostS M W0 H0 B W'.F D (k a π') → Q v H') : Post M R B W H σ Q r := by
  cases r with
  | ok a π' => exact fun W' H' v s pn sm rv => h a π' W' H' v s (st.step s pn sm) rv (PostS.weak (r := k a π') p s.sub)
  | exn n π' => exact fun W' H' C s pn sm e => p W' H' σ C (st.step s pn sm) s.sub e
  | bad => exact p
def sSkip : SS := fun ρ π => .nx ρ π
def sSeq (f g : SS) : SS := fun ρ π => match f ρ π with
  | .nx ρ' π' => g ρ' π'
  | r => r
theorem s_nil : PSs X [] (tS M W0 H0 B sSkip) := PSs.weak pss_nil fun D σ H ⟨W, ρ, π, st, p⟩ => p W H σ st (Same.refl _)
theorem s_cons {st : Stmt} {rest : List Stmt} {f g : SS} (h1 : PS X st (tS M W0 H0 B f)) (h2 : PSs X rest (tS M W0 H0 B g)) : PSs X (st :: rest) (tS M W0 H0 B (sSeq f g)) := by
  refine PSs.weak (pss_cons h1 h2) ?_
  rintro D σ H ⟨W, ρ, π, st, p⟩
  refine ⟨W, ρ, π, st, ?_⟩
  unfold sSeq at p
  cases e : f ρ π with
  | nx ρ' π' => rw [e] at p; exact fun W' H' σ' r s => ⟨W', ρ', π', r, PostS.weak p s⟩
  | rt d π' => rw [e] at p; exact p
  | bk ρ' π' => rw [e] at p; exact p
  | ct ρ' π' => rw [e] at p; exact p
  | exn n ρ' π' => rw [e] at p; exact p
  | bad => rw [e] at p; exact p
theorem s_one {st : Stmt} {f : SS} (h1 : PS X st (tS M W0 H0 B f)) : PSs X [st] (tS M W0 H0 B f) := pss_one h1
theorem s_pass {pos : Pos} : PS X (.Pass pos) (tS M W0 H0 B sSkip) := PS.weak ps_pass fun D σ H ⟨W, ρ, π, st, p⟩ => p W H σ st (Same.refl _)
def sBreak : SS := fun ρ π => .bk ρ π
def sCont : SS := fun ρ π => .ct ρ π
theorem s_break {pos : Pos} : PS X (.Break pos) (tS M W0 H0 B sBreak) := PS.weak ps_break fun D σ H ⟨W, ρ, π, st, p⟩ => p W H σ st (Same.refl _)
theorem s_cont {pos : Pos} : PS X (.Continue pos) (tS M W0 H0 B sCont) := PS.weak ps_continue fun D σ H ⟨W, ρ, π, st, p⟩ => p W H σ st (Same.refl _)
def sExpr (f : SE Dv) : SS := fun ρ π => thenS (f ρ π) ρ fun _ π' => .nx ρ π'
theorem s_expr {e : Expr} {pos : Pos} {f : SE Dv} (h : PE X e (tE M B f)) (hs : swapsWith e none pos.line X.env = pure false := by rfl) : PS X (.Expr e pos) (tS M W0 H0 B (sExpr f)) := by
  refine PS.weak (ps_expr h hs) ?_
  rintro D σ H ⟨W, ρ, π, st, p⟩
  exact ⟨W, ρ, π, st.st, thenS_post st p fun a π' W' H' v s r rv q => q W' H' σ r (Same.refl _)⟩
def sRet (f : SE Dv) : SS := fun ρ π => thenS (f ρ π) ρ fun d π' => .rt d π'
theorem s_ret {e : Expr} {pos : Pos} {f : SE Dv} (h : PE X e (tE M B f)) : PS X (.Return (some e) pos) (tS M W0 H0 B (sRet f)) := by
  refine PS.weak (ps_ret h) ?_
  rintro D σ H ⟨W, ρ, π, st, p⟩
  exact ⟨W, ρ, π, st.st, thenS_post st p fun a π' W' H' v s r rv q => q W' H' v r.go r.st.pen r.st.same rv⟩
def sRetN : SS := fun _ π => .rt (.val .none) π
theorem s_retN {pos : Pos} : PS X (.Return none pos) (tS M W0 H0 B sRetN) := PS.weak ps_retN fun D σ H ⟨W, ρ, π, st, p⟩ => p W H .non st.go st.st.pen st.st.same (.val .non)
def sSet (i : Nat) (f : SE Dv) : SS := fun ρ π => thenS (f ρ π) ρ fun d π' => .nx (ρ.set i (.val d)) π'
theorem set_imp {i : Nat} {f : SE Dv} {t : TE} (w : ∀ σ H Q, tE M B f σ H Q → t σ H Q) : ∀ D σ H, tS M W0 H0 B (sSet i f) D σ H → tAsg t (gName i) D σ H := by
  rintro D σ H ⟨W, ρ, π, st, p⟩
  exact w _ _ _ ⟨W, ρ, π, st.st, thenS_post st p fun a π' W' H' v s r rv q => q W' H' _ (r.set i rv) (Same.refl _)⟩
theorem s_set (i : Nat) {x : Str} {e : Expr} {pos pos' : Pos} {f : SE Dv} (hN : X.N.Nodup) (h : PE X e (tE M B f)) (hi : X.N[i]? = some x := by rfl) (hx : Loc X.env.scope x := by first | exact Or.inl rfl | exact Or.inr rfl) (hs : swapsWith e (some (.Name x pos')) pos.line X.env = pure false := by rfl)
    (hf : X.fn x = true ∨ X.env.scope.names.lookup x = some .local := by first | exact .inl rfl | exact .inr rfl) : PS X (.Assign [.Name x pos'] e pos) (tS M W0 H0 B (sSet i f)) :=
  PS.weak (ps_set hN hi hx h hs hf) (set_imp fun _ _ _ q => q)
def sSetO (i : Nat) (f : SE (List PyData)) : SS := fun ρ π => thenS (f ρ π) ρ fun d π' => .nx (ρ.set i (.own d)) π'
theorem setO_imp {i : Nat} {f : SE (List PyData)} {t : TE} (w : ∀ σ H Q, tL M B f σ H Q → t σ H Q) : ∀ D σ H, tS M W0 H0 B (sSetO i f) D σ H → tAsg t (gName i) D σ H := by
  rintro D σ H ⟨W, ρ, π, st, p⟩
  refine w _ _ _ ⟨W, ρ, π, st.st, ?_⟩
  unfold sSetO at p
  cases e : f ρ π with
  | bad => rw [e] at p; exact p
  | exn n π' => rw [e] at p; exact fun W' H' C s pn sm e => p W' H' σ C (st.step s pn sm) s.sub e
  | ok ds π' => rw [e] at p; exact fun W' H' a xs s pn sm n nf np eq z q => p W' H' _ (st.setOwn i s pn sm n nf np eq z q) s.sub
theorem s_setO (i : Nat) {x : Str} {e : Expr} {pos pos' : Pos} {f : SE (List PyData)} (hN : X.N.Nodup) (h : PE X e (tL M B f)) (hi : X.N[i]? = some x := by rfl) (hx : Loc X.env.scope x := by first | exact Or.inl rfl | exact Or.inr rfl) (hs : swapsWith e (some (.Name x pos')) pos.line X.env = pure false := by rfl)
    (hf : X.fn x = true ∨ X.env.scope.names.lookup x = some .local := by first | exact .inl rfl | exact .inr rfl) : PS X (.Assign [.Name x pos'] e pos) (tS M W0 H0 B (sSetO i f)) :=
  PS.weak (ps_set hN hi hx h hs hf) (setO_imp fun _ _ _ q => q)
def sIf (c : SE Bool) (f g : SS) : SS := fun ρ π => thenS (c ρ π) ρ fun b π' => if b = true then f ρ π' else g ρ π'
theorem s_if {c : Expr} {a b : List Stmt} {pos : Pos} {t : SE Bool} {f g : SS} (hc : PT X c (tT M B t)) (ha : PSs X a (tS M W0 H0 B f)) (hb : PSs X b (tS M W0 H0 B g)) : PS X (.If c a b pos) (tS M W0 H0 B (sIf t f g)) := by
  refine PS.weak (ps_if hc ha hb) ?_
  rintro D σ H ⟨W, ρ, π, st, p⟩
  refine ⟨W, ρ, π, st.st, thenS_post st p fun a π' W' H' v s r rv q => ?_⟩
  subst rv
  cases v with
  | true => rw [if_pos rfl] at q ⊢; exact ⟨W', ρ, π', r, q⟩
  | false => rw [if_neg Bool.false_ne_true] at q ⊢; exact ⟨W', ρ, π', r, q⟩
/-- a held list is let go ahead of a statement -/
def sFrz (i : Nat) (f : SS) : SS := fun ρ π => match ρ[i]? with
  | some (.own ds) => f (ρ.set i (.val (.val (.list ds)))) π
  | _ => f ρ π
theorem frzS_imp {i : Nat} {f : SS} : ∀ D σ H, tS M W0 H0 B (sFrz i f) D σ H → tS M W0 H0 B f D σ H := by
  rintro D σ H ⟨W, ρ, π, st, p⟩
  unfold sFrz at p
  split at p
  · rename_i ds e
    obtain ⟨W', r, ss, _⟩ := st.letgo e
    exact ⟨W', _, π, r, PostS.weak p ss⟩
  · exact ⟨W, ρ, π, st, p⟩
theorem s_frz (i : Nat) {st : Stmt} {f : SS} (h : PS X st (tS M W0 H0 B f)) : PS X st (tS M W0 H0 B (sFrz i f)) := PS.weak h frzS_imp
theorem ss_frz (i : Nat) {st : List Stmt} {f : SS} (h : PSs X st (tS M W0 H0 B f)) : PSs X st (tS M W0 H0 B (sFrz i f)) := PSs.weak h frzS_imp

/-! ### targets and walks -/
/-- a target: the slots that it stores -/
abbrev Itm := Hp → V → PyData → Prop
structure GDG (D : Itm) (g : TG) (is : List Nat) (tg : PyData → List Sv → Option (List Sv)) : Prop where
  run : ∀ {M : Md} {W : Wd} {H : Hp} {ρ ρ' : List Sv} {π : Pn} {σ : L2.St} {x : V} {d : PyData} {Q : L2.St → Hp → Prop}, StE M W H ρ π σ → D W.F x d → tg d ρ = some ρ' →
    (∀ σ', StE M W H ρ' π σ' → (∀ (i : Nat) (ds : List PyData), ρ'[i]? = some (.own ds) → ρ[i]? = some (.own ds) ∧ σ'[i]? = σ[i]?) → (∀ j, j ∉ is → σ'[j]? = σ[j]?) → σ'.length = σ.length → Q σ' H) → g x σ H Q
abbrev GD := GDG Dq
def gN (i : Nat) : PyData → List Sv → Option (List Sv) := fun d ρ => some (ρ.set i (.val (.val d)))
theorem gd_name (i : Nat) : GD (gName i) [i] (gN i) := ⟨fun {M W H ρ ρ' π σ x d Q} st r e k => by
  cases e
  refine k _ (st.set i (.val r)) (fun j ds h => ?_) (fun j hj => ?_) (by simp)
  · rcases get_set h with ⟨_, z, _⟩ | ⟨ne, h⟩
    · cases z
    · exact ⟨h, by rw [List.getElem?_set_ne ne]⟩
  · rw [List.getElem?_set_ne (fun z => hj (by simp [z]))]⟩
structure GDs (g : TGs) (is : List Nat) (tg : List PyData → List Sv → Option (List Sv)) : Prop where
  run : ∀ {M : Md} {W : Wd} {H : Hp} {ρ ρ' : List Sv} {π : Pn} {σ : L2.St} {xs : List V} {ds : List PyData} {Q : L2.St → Hp → Prop}, StE M W H ρ π σ → DqAll W.F xs ds → tg ds ρ = some ρ' →
    (∀ σ', StE M W H ρ' π σ' → (∀ (i : Nat) (ds : List PyData), ρ'[i]? = some (.own ds) → ρ[i]? = some (.own ds) ∧ σ'[i]? = σ[i]?) → (∀ j, j ∉ is → σ'[j]? = σ[j]?) → σ'.length = σ.length → Q σ' H) → g xs σ H Q
def gsN : List PyData → List Sv → Option (List Sv)
  | [], ρ => some ρ
  | _ :: _, _ => none
def gsC (t : PyData → List Sv → Option (List Sv)) (u : List PyData → List Sv → Option (List Sv)) : List PyData → List Sv → Option (List Sv)
  | [], _ => none
  | d :: ds, ρ => (t d ρ).bind (u ds)
theorem gds_nil : GDs gNil [] gsN := ⟨fun {M W H ρ ρ' π σ xs ds Q} st r e k => by
  cases ds with
  | cons d ds => cases e
  | nil =>
    cases e; cases r
    exact ⟨rfl, k σ st (fun _ _ h => ⟨h, rfl⟩) (fun _ _ => rfl) rfl⟩⟩
theorem gds_cons {g : TG} {gs : TGs} {is js : List Nat} {t : PyData → List Sv → Option (List Sv)} {u : List PyData → List Sv → Option (List Sv)} (h1 : GD g is t) (h2 : GDs gs js u) : GDs (gCons g gs) (is ++ js) (gsC t u) := ⟨fun {M W H ρ ρ' π σ xs ds Q} st r e k => by
  cases ds with
  | nil => cases e
  | cons d ds =>
    cases r with
    | cons r rr =>
      have e : (t d ρ).bind (u ds) = some ρ' := e
      cases q : t d ρ with
      | none => rw [q] at e; cases e
      | some ρ1 =>
        rw [q] at e
        refine ⟨_, _, rfl, h1.run st r q fun σ1 st1 o1 f1 l1 => h2.run st1 rr e fun σ2 st2 o2 f2 l2 => k σ2 st2 (fun i ds h => ?_) (fun j hj => ?_) (l2.trans l1)⟩
        · obtain ⟨a, b⟩ := o2 i ds h
          obtain ⟨c, d⟩ := o1 i ds a
          exact ⟨c, b.trans d⟩
        · exact (f2 j fun z => hj (List.mem_append_right _ z)).trans (f1 j fun z => hj (List.mem_append_left _ z))⟩
def gT (n : Nat) (u : List PyData → List Sv → Option (List Sv)) : PyData → List Sv → Option (List Sv)
  | .tuple ds, ρ => if ds.length = n then u ds ρ else none
  | _, _ => none
/-- a pair that enumerate or zip has made -/
def Dw (F : Hp) (v : V) (d : PyData) : Prop := ∃ a xs ds, v = .ref a ∧ d = .tuple ds ∧ F a = some (.tup xs) ∧ DqAll F xs ds
theorem gd_tupW {K : PySem.W.Frag} {n : Nat} {gs : TGs} {is : List Nat} {u : List PyData → List Sv → Option (List Sv)} (h : GDs gs is u) : GDG Dw (gTup K n gs) is (gT n u) := ⟨fun {M W H ρ ρ' π σ x d Q} st r e k => by
  obtain ⟨a, xs, ds, rfl, rfl, ea, ra⟩ := r
  have e : (if ds.length = n then u ds ρ else none) = some ρ' := e
  split at e
  · rename_i hl
    exact ⟨a, xs, rfl, SqT.of (st.same _ _ ea), ra.length.trans hl, h.run st ra e k⟩
  · cases e⟩
theorem gd_tup {K : PySem.W.Frag} {n : Nat} {gs : TGs} {is : List Nat} {u : List PyData → List Sv → Option (List Sv)} (h : GDs gs is u) : GD (gTup K n gs) is (gT n u) := ⟨fun {M W H ρ ρ' π σ x d Q} st r e k => by
  cases r with
  | @tup a o xs ds ea po z ra =>
    have e : (if ds.length = n then u ds ρ else none) = some ρ' := e
    split at e
    · rename_i hl
      exact ⟨a, xs, rfl, SqT_frz ⟨_, ea, po⟩ st.same, ra.length.trans hl, h.run st ra e k⟩
    · cases e
  | non => cases e
  | bl _ => cases e
  | int _ => cases e
  | str _ => cases e
  | lst _ _ _ => cases e⟩
end
end DL

set_option maxRecDepth 100000
set_option maxHeartbeats 8000000
namespace DL
open PySem PySem.Spec PyProof.Rows L2

/-! ### what is walked -/
structure IsWalkG (D : Itm) (F : Hp) (J : It) (ds : List PyData) : Prop where
  go : ∀ i H, i < ds.length → Same F H → J.go i H
  stop : ∀ H, Same F H → J.stop ds.length H
  yld : ∀ i H x H' W π d, J.yld i H x H' → ds[i]? = some d → Same F W.F → Same W.F H → PenOk W H π → ∃ W', Step W H W' H' ∧ PenOk W' H' π ∧ Same W'.F H' ∧ D W'.F x d
abbrev IsWalk := IsWalkG Dq
theorem IsWalkG.mono {D : Itm} {F F' : Hp} {J : It} {ds : List PyData} (w : IsWalkG D F J ds) (s : Same F F') : IsWalkG D F' J ds :=
  ⟨fun i H hi q => w.go i H hi (s.trans q), fun H q => w.stop H (s.trans q), fun i H x H' W π d y e q q2 p => w.yld i H x H' W π d y e (s.trans q) q2 p⟩
def PostIG (D : Itm) (M : Md) (B : WX) (W : Wd) (H : Hp) (σ : L2.St) (R : It → Hp → Prop) : Res (List PyData) → Prop
  | .ok ds π' => ∀ W' H' J, Step W H W' H' → PenOk W' H' π' → Same W'.F H' → IsWalkG D W'.F J ds → R J H'
  | .exn n π' => ∀ W' H' C, Step W H W' H' → PenOk W' H' π' → Same W'.F H' → M.mg n = some (.ref C) → B (.ref C) none σ H'
  | .bad => False
abbrev PostI := PostIG Dq
def tIG (D : Itm) (M : Md) (B : WX) (f : SE (List PyData)) : TI := fun σ H R => ∃ W ρ π, StE M W H ρ π σ ∧ PostIG D M B W H σ R (f ρ π)
abbrev tI := tIG Dq
section
variable {X : Cx} {tb : Tb} {B : WX} {M : Md}
theorem PostIG.bind {D : Itm} {α β : Type} {R' : Wd → β → α → Prop} {W : Wd} {H : Hp} {σ : L2.St} {R : It → Hp → Prop} {Q1 : β → Hp → Prop} {r : Res α} {k : α → Pn → Res (List PyData)} (p : PostIG D M B W H σ R (r.bind k))
    (h : ∀ a π1 W1 H1 v, Step W H W1 H1 → PenOk W1 H1 π1 → Same W1.F H1 → R' W1 v a → PostIG D M B W1 H1 σ R (k a π1) → Q1 v H1) : Post M R' B W H σ Q1 r := by
  cases r with
  | ok a π =>
    refine fun W' H' v t pn sm rv => h a π W' H' v t pn sm rv ?_
    have p : PostIG D M B W H σ R (k a π) := p
    cases q : k a π with
    | ok ds π' => rw [q] at p; exact fun W2 H2 J s2 pn2 sm2 w2 => p W2 H2 J (t.trans s2) pn2 sm2 w2
    | exn n π' => rw [q] at p; exact fun W2 H2 C s2 pn2 sm2 e => p W2 H2 C (t.trans s2) pn2 sm2 e
    | bad => rw [q] at p; exact p
  | exn n π => exact p
  | bad => exact p
theorem PostIG.now {D : Itm} {W : Wd} {H : Hp} {σ : L2.St} {R : It → Hp → Prop} {ds : List PyData} {π : Pn} (p : PostIG D M B W H σ R (.ok ds π)) (pn : PenOk W H π) (sm : Same W.F H) {J : It} (w : IsWalkG D W.F J ds) : R J H := p W H J (Step.refl _ _) pn sm w
theorem SqL.same {K : PySem.W.Frag} {H H' : Hp} {a : Addr} {xs : List V} (s : Same H H') (h : SqL K H a xs) : SqL K H' a xs := s.seq h

theorem w_list {F : Hp} {K : PySem.W.Frag} {a : Addr} {xs : List V} {ds : List PyData} (e : F a = some (.lst xs)) (r : DqAll F xs ds) : IsWalk F (Itl K a) ds := by
  refine ⟨fun i H hi s => ?_, fun H s => ⟨xs, SqL.of (s _ _ e), by rw [r.length]; exact Nat.le_refl _⟩, fun i H x H' W π d y e2 s s2 p => ?_⟩
  · rw [← r.length] at hi
    exact ⟨xs, xs[i], SqL.of (s _ _ e), by simp [hi]⟩
  · obtain ⟨rfl, y⟩ := y
    obtain ⟨v, hv, rv⟩ := r.get' e2
    have z := y xs (SqL.of (s2 _ _ (s _ _ e)))
    rw [hv] at z; cases z
    exact ⟨W, Step.refl _ _, p, s2, rv.mono s⟩
theorem w_tup {F : Hp} {K : PySem.W.Frag} {a : Addr} {xs : List V} {ds : List PyData} (e : ∃ o, F a = some (.frz o (.tup xs)) ∧ PlT o) (r : DqAll F xs ds) : IsWalk F (Itt K a) ds := by
  refine ⟨fun i H hi s => ?_, fun H s => ⟨xs, SqT_frz e s, by rw [r.length]; exact Nat.le_refl _⟩, fun i H x H' W π d y e2 s s2 p => ?_⟩
  · rw [← r.length] at hi
    exact ⟨xs, xs[i], SqT_frz e s, by simp [hi]⟩
  · obtain ⟨rfl, y⟩ := y
    obtain ⟨v, hv, rv⟩ := r.get' e2
    have z := y xs (SqT_frz e (s.trans s2))
    rw [hv] at z; cases z
    exact ⟨W, Step.refl _ _, p, s2, rv.mono s⟩
theorem w_scr {F : Hp} {K : PySem.W.Frag} {a : Addr} {ns : List Int} (e : SqL K F a (ns.map V.int)) : IsWalk F (Itl K a) (ns.map PyData.int) := by
  refine ⟨fun i H hi s => ?_, fun H s => ⟨_, s.seq e, by simp⟩, fun i H x H' W π d y e2 s s2 p => ?_⟩
  · have hi : i < ns.length := by simpa using hi
    exact ⟨_, V.int ns[i], s.seq e, by simp [hi]⟩
  · obtain ⟨rfl, y⟩ := y
    have z := y _ ((s.trans s2).seq e)
    rw [List.getElem?_map] at z e2
    cases q : ns[i]? with
    | none => rw [q] at z; cases z
    | some n =>
      rw [q] at z e2; cases z; cases e2
      exact ⟨W, Step.refl _ _, p, s2, .int n⟩
def signs (x : Str) : List PyData := x.cps.toList.map fun c => PyData.str ⟨#[c]⟩
theorem w_str {F : Hp} {x : Str} : IsWalk F (Its x) (signs x) := by
  refine ⟨fun i H hi s => ?_, fun H s => ?_, fun i H v H' W π d y e2 s s2 p => ?_⟩
  · simpa [signs, Its] using hi
  · simp [signs, Its]
  · obtain ⟨rfl, c, e, rfl⟩ := y
    have e3 : d = .str ⟨#[c]⟩ := by
      unfold signs at e2
      rw [List.getElem?_map, Array.getElem?_toList, e] at e2
      cases e2; rfl
    subst e3
    exact ⟨W, Step.refl _ _, p, s2, .str _⟩
def itemsOf : Dv → Option (List PyData)
  | .val (.list ds) => some ds
  | .val (.tuple ds) => some ds
  | .val (.str x) => some (signs x)
  | .scr ns => some (ns.map PyData.int)
  | _ => none
def iSeq (f : SE Dv) : SE (List PyData) := fun ρ π => (f ρ π).bind fun d π1 => match itemsOf d with
  | some ds => .ok ds π1
  | none => .bad
theorem i_seq {tg e : Expr} {f : SE Dv} (he : PE X e (tE (Cx.md X tb) B f)) : PI X tg e (tI (Cx.md X tb) B (iSeq f)) := by
  refine ⟨fun pins s σ H R I ⟨W, ρ, π, st, p⟩ => ?_⟩
  unfold iSeq at p
  have key : ∀ {t : TI}, PI X tg e t → t σ H R → wpAny (model X.prog X.w) X.A (eval e X.env) (fun v s1 => wpAny (model X.prog X.w) X.A (pyIter v) (PIE X pins σ tg R) X.xe s1) X.xe s := fun h q => h.run pins s σ H R I q
  cases q : f ρ π with
  | bad => rw [q] at p; exact p.elim
  | exn n π' => rw [q] at p; exact key (pi_list he) ⟨W, ρ, π, st, by rw [q]; exact p⟩
  | ok d π' =>
    rw [q] at p
    have p : PostI (Cx.md X tb) B W H σ R (match itemsOf d with | some ds => Res.ok ds π' | none => Res.bad) := p
    cases d with
    | pen => exact p.elim
    | err n => exact p.elim
    | ppr n => exact p.elim
    | dct _ => exact p.elim
    | fn _ => exact p.elim
    | scr ns =>
      refine key (pi_list he) ⟨W, ρ, π, st, ?_⟩
      rw [q]
      intro W1 H1 v s1 pn1 sm1 r1
      cases r1 with
      | scr e z => exact ⟨_, rfl, ⟨_, sm1.seq e⟩, p W1 H1 _ s1 pn1 sm1 (w_scr e)⟩
    | val d =>
      cases d with
      | none => exact p.elim
      | bool _ => exact p.elim
      | int _ => exact p.elim
      | dict _ => exact p.elim
      | list ds =>
        refine key (pi_list he) ⟨W, ρ, π, st, ?_⟩
        rw [q]
        intro W1 H1 v s1 pn1 sm1 r1
        obtain ⟨a, xs, rfl, e, z, r⟩ := rv_lst r1
        exact ⟨a, rfl, ⟨xs, SqL.of (sm1 _ _ e)⟩, p W1 H1 _ s1 pn1 sm1 (w_list e r)⟩
      | tuple ds =>
        refine key (pi_tup he) ⟨W, ρ, π, st, ?_⟩
        rw [q]
        intro W1 H1 v s1 pn1 sm1 r1
        obtain ⟨a, xs, rfl, e, z, r⟩ := rv_tup r1
        exact ⟨a, rfl, ⟨xs, SqT_frz e sm1⟩, p W1 H1 _ s1 pn1 sm1 (w_tup e r)⟩
      | str x =>
        refine key (pi_str he) ⟨W, ρ, π, st, ?_⟩
        rw [q]
        intro W1 H1 v s1 pn1 sm1 r1
        cases rv_str r1
        exact ⟨x, rfl, p W1 H1 _ s1 pn1 sm1 w_str⟩
/-- lo, lo + c, .. (n of them) -/
def rngL (lo c : Int) (n : Nat) : List PyData := (List.range n).map fun (i : Nat) => PyData.int (lo + (i : Int) * c)
theorem rngL_len (lo c : Int) (n : Nat) : (rngL lo c n).length = n := by simp [rngL]
theorem rngL_get {lo c : Int} {n i : Nat} {d : PyData} (h : (rngL lo c n)[i]? = some d) : d = .int (lo + (i : Int) * c) := by
  unfold rngL at h
  rw [List.getElem?_map] at h
  cases q : (List.range n)[i]? with
  | none => rw [q] at h; cases h
  | some j =>
    rw [q] at h
    have : j = i := by
      obtain ⟨h1, h2⟩ := List.getElem?_eq_some_iff.mp q
      simpa using h2.symm
    subst this
    cases h; rfl
theorem w_rng {F : Hp} {lo : Int} {n : Nat} : IsWalk F (Itr lo n) (rngL lo 1 n) := by
  refine ⟨fun i H hi s => by rw [rngL_len] at hi; exact hi, fun H s => by rw [rngL_len]; exact Nat.le_refl _, fun i H v H' W π d y e2 s s2 p => ?_⟩
  obtain ⟨rfl, rfl⟩ := y
  cases rngL_get e2
  rw [Int.mul_one]
  exact ⟨W, Step.refl _ _, p, s2, .int _⟩
theorem w_rngC {F : Hp} {lo c : Int} {n : Nat} : IsWalk F (Itc lo c n) (rngL lo c n) := by
  refine ⟨fun i H hi s => by rw [rngL_len] at hi; exact hi, fun H s => by rw [rngL_len]; exact Nat.le_refl _, fun i H v H' W π d y e2 s s2 p => ?_⟩
  obtain ⟨rfl, rfl⟩ := y
  cases rngL_get e2
  exact ⟨W, Step.refl _ _, p, s2, .int _⟩
def iRange (g : SE (List Dv)) : SE (List PyData) := fun ρ π => (g ρ π).bind fun ds π1 => match ds with
  | [.val (.int j)] => if -(2 ^ 62) ≤ j ∧ j < 2 ^ 62 then .ok (rngL 0 1 j.toNat) π1 else .bad
  | [.val (.int i), .val (.int j)] => if -(2 ^ 62) ≤ i ∧ i < 2 ^ 62 ∧ -(2 ^ 62) ≤ j ∧ j < 2 ^ 62 then .ok (rngL i 1 (j - i).toNat) π1 else .bad
  | [.val (.int i), .val (.int j), .val (.int c)] => if c ≠ 0 ∧ c.natAbs < 1073741824 ∧ Builtin.Range.small i j c = true ∧ 0 ≤ Builtin.Range.rangeSize i j c then .ok (rngL i c (Builtin.Range.rangeSize i j c).toNat) π1 else .bad
  | _ => .bad
theorem rvl_one {W : Wd} {vs : List V} {i : Int} (r : RvL (Cx.md X tb) W vs [.val (.int i)]) : vs = [.int i] := by
  cases r with | cons r t => cases t; rw [rv_int r]
theorem rvl_two {W : Wd} {vs : List V} {i j : Int} (r : RvL (Cx.md X tb) W vs [.val (.int i), .val (.int j)]) : vs = [.int i, .int j] := by
  cases r with | cons r t => rw [rvl_one t, rv_int r]
theorem rvl_three {W : Wd} {vs : List V} {i j k : Int} (r : RvL (Cx.md X tb) W vs [.val (.int i), .val (.int j), .val (.int k)]) : vs = [.int i, .int j, .int k] := by
  cases r with | cons r t => rw [rvl_two t, rv_int r]
theorem i_range1 {tg a : Expr} {p pos : Pos} {g : SE (List Dv)} (hm : X.mg "range" = none) (ha : PA X [a] (tA (Cx.md X tb) B g)) (hl : ∀ ρ π ds π', g ρ π = .ok ds π' → ds.length = 1) (hg : Gl X "range" := by rfl) (hs : starEach [a] X.env = [(false, eval a X.env)] := by rfl) :
    PI X tg (.Call (.Name "range" p) [a] [] pos) (tI (Cx.md X tb) B (iRange g)) := by
  refine ⟨fun pins s σ H R I ⟨W, ρ, π, st, p⟩ => (pi_range1 hg hm ha hs).run pins s σ H R I ⟨W, ρ, π, st, ?_⟩⟩
  unfold iRange at p
  cases q : g ρ π with
  | bad => rw [q] at p; exact p
  | exn n π' => rw [q] at p; exact p
  | ok ds π1 =>
    have hl := hl ρ π ds π1 q
    rw [q] at p
    intro W1 H1 vs s1 pn1 sm1 r1
    match ds, hl, r1, p with
    | [.val (.int j)], _, r1, p =>
      simp only [Res.bind] at p
      split at p
      · rename_i h
        exact ⟨j, rvl_one r1, h.1, h.2, p W1 H1 _ s1 pn1 sm1 w_rng⟩
      · exact p.elim
theorem i_range2 {tg a b : Expr} {p pos : Pos} {g : SE (List Dv)} (hm : X.mg "range" = none) (ha : PA X [a, b] (tA (Cx.md X tb) B g)) (hl : ∀ ρ π ds π', g ρ π = .ok ds π' → ds.length = 2) (hg : Gl X "range" := by rfl) (hs : starEach [a, b] X.env = [(false, eval a X.env), (false, eval b X.env)] := by rfl) (hs2 : starEach [b] X.env = [(false, eval b X.env)] := by rfl) : PI X tg (.Call (.Name "range" p) [a, b] [] pos) (tI (Cx.md X tb) B (iRange g)) := by
  refine ⟨fun pins s σ H R I ⟨W, ρ, π, st, p⟩ => (pi_range2 hg hm ha hs hs2).run pins s σ H R I ⟨W, ρ, π, st, ?_⟩⟩
  unfold iRange at p
  cases q : g ρ π with
  | bad => rw [q] at p; exact p
  | exn n π' => rw [q] at p; exact p
  | ok ds π1 =>
    have hl := hl ρ π ds π1 q
    rw [q] at p
    intro W1 H1 vs s1 pn1 sm1 r1
    match ds, hl, r1, p with
    | [.val (.int i), .val (.int j)], _, r1, p =>
      simp only [Res.bind] at p
      split at p
      · rename_i h
        exact ⟨i, j, rvl_two r1, h, p W1 H1 _ s1 pn1 sm1 w_rng⟩
      · exact p.elim
theorem i_range3 {tg a b c : Expr} {p pos : Pos} {g : SE (List Dv)} (hm : X.mg "range" = none) (ha : PA X [a, b, c] (tA (Cx.md X tb) B g)) (hl : ∀ ρ π ds π', g ρ π = .ok ds π' → ds.length = 3) (hg : Gl X "range" := by rfl) (hs : starEach [a, b, c] X.env = (false, eval a X.env) :: starEach [b, c] X.env := by rfl)
    (hpl : (backTo pos (starEach [b, c] X.env)).any (·.1) = false := by rfl) : PI X tg (.Call (.Name "range" p) [a, b, c] [] pos) (tI (Cx.md X tb) B (iRange g)) := by
  refine ⟨fun pins s σ H R I ⟨W, ρ, π, st, p⟩ => (pi_range3 hg hm ha hs hpl).run pins s σ H R I ⟨W, ρ, π, st, ?_⟩⟩
  unfold iRange at p
  cases q : g ρ π with
  | bad => rw [q] at p; exact p
  | exn n π' => rw [q] at p; exact p
  | ok ds π1 =>
    have hl := hl ρ π ds π1 q
    rw [q] at p
    intro W1 H1 vs s1 pn1 sm1 r1
    match ds, hl, r1, p with
    | [.val (.int i), .val (.int j), .val (.int c)], _, r1, p =>
      simp only [Res.bind] at p
      split at p
      · rename_i h
        exact ⟨i, j, c, _, rvl_three r1, ⟨h.1, h.2.1, h.2.2.1, by omega⟩, p W1 H1 _ s1 pn1 sm1 w_rngC⟩
      · exact p.elim
theorem aCons_len {n : Nat} {f : SE Dv} {g : SE (List Dv)} (h : ∀ ρ π ds π', g ρ π = .ok ds π' → ds.length = n) : ∀ ρ π ds π', aCons f g ρ π = .ok ds π' → ds.length = n + 1 := fun ρ π ds π' e => by
  unfold aCons at e
  cases q : f ρ π with
  | bad => rw [q] at e; cases e
  | exn n π' => rw [q] at e; cases e
  | ok d π1 =>
    rw [q] at e
    have e : (g ρ π1).bind (fun ds π2 => .ok (d :: ds) π2) = .ok ds π' := e
    cases q2 : g ρ π1 with
    | bad => rw [q2] at e; cases e
    | exn n π' => rw [q2] at e; cases e
    | ok es π2 => rw [q2] at e; cases e; simp [h _ _ _ _ q2]
theorem aNil_len : ∀ ρ π ds π', aNil ρ π = .ok ds π' → ds.length = 0 := fun ρ π ds π' e => by cases e; rfl

/-! ### enumerate, zip -/
def enumL (ds : List PyData) : List PyData := ds.zipIdx.map fun p => .tuple [.int (p.2 : Nat), p.1]
theorem enumL_get {ds : List PyData} {i : Nat} {d : PyData} (h : (enumL ds)[i]? = some d) : ∃ e, ds[i]? = some e ∧ d = .tuple [.int (i : Nat), e] := by
  unfold enumL at h
  rw [List.getElem?_map, List.getElem?_zipIdx] at h
  cases q : ds[i]? with
  | none => rw [q] at h; cases h
  | some e => rw [q] at h; cases h; exact ⟨e, rfl, by simp⟩
theorem pair_step {W : Wd} {H : Hp} {π : Pn} {T : Addr} {x y : V} {d e : PyData} (sm : Same W.F H) (pn : PenOk W H π) (n : H T = none) (rx : Dq W.F x d) (ry : Dq W.F y e) :
    ∃ W', Step W H W' (upd H T (.tup [x, y])) ∧ PenOk W' (upd H T (.tup [x, y])) π ∧ Same W'.F (upd H T (.tup [x, y])) ∧ Dw W'.F (.ref T) (.tuple [d, e]) := by
  obtain ⟨s, pn2, sm2⟩ := fresh (o := .tup [x, y]) sm pn n
  exact ⟨_, s, pn2, sm2, _, _, _, rfl, rfl, upd_same, .cons (rx.mono s.sub) (.cons (ry.mono s.sub) .nil)⟩
theorem w_enum {F : Hp} {K : PySem.W.Frag} {a : Addr} {xs : List V} {ds : List PyData} (e : SqL K F a xs) (r : DqAll F xs ds) : IsWalkG Dw F (Ite K a) (enumL ds) := by
  have hl : (enumL ds).length = ds.length := by simp [enumL]
  refine ⟨fun i H hi s => ?_, fun H s => ⟨xs, s.seq e, by rw [hl, r.length]; exact Nat.le_refl _⟩, fun i H x H' W π d y e2 s s2 p => ?_⟩
  · rw [hl, ← r.length] at hi
    exact ⟨xs, xs[i], s.seq e, by simp [hi]⟩
  · obtain ⟨T, x, rfl, n, rfl, y⟩ := y
    obtain ⟨d, e3, rfl⟩ := enumL_get e2
    obtain ⟨v, hv, rv⟩ := r.get' e3
    have z := y xs ((s.trans s2).seq e)
    rw [hv] at z; cases z
    exact pair_step s2 p n (.int _) (rv.mono s)
def iEnum (f : SE Dv) : SE (List PyData) := fun ρ π => (f ρ π).bind fun d π1 => match d with
  | .val (.list ds) => .ok (enumL ds) π1
  | .scr ns => .ok (enumL (ns.map PyData.int)) π1
  | _ => .bad
theorem i_enum {e : Expr} {p pos tpos : Pos} {elts : List Expr} {kk : Nat} {f : SE Dv} (hm : X.mg "enumerate" = none) (he : PE X e (tE (Cx.md X tb) B f)) (hg : Gl X "enumerate" := by rfl) (hs : starEach [e] X.env = [(false, eval e X.env)] := by rfl) :
    PI X (.Tuple elts kk tpos) (.Call (.Name "enumerate" p) [e] [] pos) (tIG Dw (Cx.md X tb) B (iEnum f)) := by
  refine ⟨fun pins s σ H R I ⟨W, ρ, π, st, p⟩ => (pi_enum hg hm (pa_cons he pa_nil hs) hs).run pins s σ H R I ⟨W, ρ, π, st, p.bind fun d π1 W1 H1 v s1 pn1 sm1 r1 p1 => ?_⟩⟩
  have r1 : Rv (Cx.md X tb) W1 v d := r1
  cases r1 with
  | pen _ => exact p1.elim
  | err _ _ => exact p1.elim
  | dct _ _ _ => exact p1.elim
  | fn _ => exact p1.elim
  | scr e z => exact ⟨_, _, rfl, sm1.seq e, p1.now pn1 sm1 (w_enum e (DqAll.ints _))⟩
  | val r => cases r with
    | lst e z r => exact ⟨_, _, rfl, SqL.of (sm1 _ _ e), p1.now pn1 sm1 (w_enum (SqL.of e) r)⟩
    | non => exact p1.elim
    | bl _ => exact p1.elim
    | int _ => exact p1.elim
    | str _ => exact p1.elim
    | tup _ _ _ => exact p1.elim
def zipL (ds es : List PyData) : List PyData := (ds.zip es).map fun p => .tuple [p.1, p.2]
theorem zipL_get {ds es : List PyData} {i : Nat} {d : PyData} (h : (zipL ds es)[i]? = some d) : ∃ a b, ds[i]? = some a ∧ es[i]? = some b ∧ d = .tuple [a, b] := by
  unfold zipL at h
  rw [List.getElem?_map] at h
  cases q : (ds.zip es)[i]? with
  | none => rw [q] at h; cases h
  | some p =>
    rw [q] at h; cases h
    obtain ⟨h1, h2⟩ := List.getElem?_zip_eq_some.mp q
    exact ⟨p.1, p.2, h1, h2, rfl⟩
theorem zipL_len (ds es : List PyData) : (zipL ds es).length = min ds.length es.length := by simp [zipL]
theorem w_zip {F : Hp} {K : PySem.W.Frag} {a b : Addr} {xs ys : List V} {ds es : List PyData} (e : SqL K F a xs) (r : DqAll F xs ds) (e' : SqL K F b ys) (r' : DqAll F ys es) : IsWalkG Dw F (Itz K a b) (zipL ds es) := by
  refine ⟨fun i H hi s => ?_, fun H s => ⟨xs, ys, s.seq e, s.seq e', ?_⟩, fun i H x H' W π d y e2 s s2 p => ?_⟩
  · rw [zipL_len, ← r.length, ← r'.length] at hi
    exact ⟨xs, ys, xs[i]'(by omega), ys[i]'(by omega), s.seq e, s.seq e', by simp [show i < xs.length by omega], by simp [show i < ys.length by omega]⟩
  · rw [zipL_len, r.length, r'.length]; omega
  · obtain ⟨T, x, z, rfl, n, rfl, y1, y2⟩ := y
    obtain ⟨a', b', h1, h2, rfl⟩ := zipL_get e2
    obtain ⟨v, hv, rv⟩ := r.get' h1
    obtain ⟨v', hv', rv'⟩ := r'.get' h2
    have z1 := y1 xs ((s.trans s2).seq e)
    have z2 := y2 ys ((s.trans s2).seq e')
    rw [hv] at z1; cases z1
    rw [hv'] at z2; cases z2
    exact pair_step s2 p n (rv.mono s) (rv'.mono s)
theorem signs_get {x : Str} {i : Nat} {d : PyData} (h : (signs x)[i]? = some d) : ∃ c, x.cps[i]? = some c ∧ d = .str ⟨#[c]⟩ := by
  unfold signs at h
  rw [List.getElem?_map, Array.getElem?_toList] at h
  cases q : x.cps[i]? with
  | none => rw [q] at h; cases h
  | some c => rw [q] at h; cases h; exact ⟨c, rfl, rfl⟩
theorem signs_len (x : Str) : (signs x).length = x.cps.size := by simp [signs]
theorem w_zipS {F : Hp} {x y : Str} : IsWalkG Dw F (DLZ.ItzS x y) (zipL (signs x) (signs y)) := by
  refine ⟨fun i H hi s => ?_, fun H s => ?_, fun i H v H' W π d w e2 s s2 p => ?_⟩
  · rw [zipL_len, signs_len, signs_len] at hi
    exact ⟨by omega, by omega⟩
  · rw [zipL_len, signs_len, signs_len]
    show x.cps.size ≤ _ ∨ y.cps.size ≤ _
    omega
  · obtain ⟨T, c, d', rfl, n, rfl, h1, h2⟩ := w
    obtain ⟨a', b', g1, g2, rfl⟩ := zipL_get e2
    obtain ⟨c1, k1, rfl⟩ := signs_get g1
    obtain ⟨c2, k2, rfl⟩ := signs_get g2
    rw [h1] at k1; cases k1
    rw [h2] at k2; cases k2
    exact pair_step s2 p n (.str _) (.str _)
def iZip (g : SE (List Dv)) : SE (List PyData) := fun ρ π => (g ρ π).bind fun ds π2 => match ds with
  | [.val (.str x), .val (.str y)] => .ok (zipL (signs x) (signs y)) π2
  | [.val (.list x), .val (.list y)] => .ok (zipL x y) π2
  | _ => .bad
theorem i_zip {e e2 : Expr} {p pos tpos : Pos} {elts : List Expr} {kk : Nat} {g : SE (List Dv)} (hm : X.mg "zip" = none) (ha : PA X [e, e2] (tA (Cx.md X tb) B g)) (hg : Gl X "zip" := by rfl) (hs : starEach [e, e2] X.env = (false, eval e X.env) :: starEach [e2] X.env := by rfl)
    (hpl : (backTo pos (starEach [e2] X.env)).any (·.1) = false := by rfl) : PI X (.Tuple elts kk tpos) (.Call (.Name "zip" p) [e, e2] [] pos) (tIG Dw (Cx.md X tb) B (iZip g)) := by
  refine ⟨fun pins s σ H R I ⟨W, ρ, π, st, p⟩ => ?_⟩
  unfold iZip at p
  cases q : g ρ π with
  | bad => rw [q] at p; exact p.elim
  | exn n π' => rw [q] at p; exact (pi_zip hg hm ha hs hpl).run pins s σ H R I ⟨W, ρ, π, st, by rw [q]; exact p⟩
  | ok ds π1 =>
    rw [q] at p
    match ds, q, p with
    | [.val (.str x), .val (.str y)], q, p =>
      refine (DLZ.pi_zipS hg hm ha hs hpl).run pins s σ H R I ⟨W, ρ, π, st, ?_⟩
      rw [q]
      intro W1 H1 vs s1 pn1 sm1 r1
      cases r1 with | cons r t => cases t with | cons r' t => cases t; exact ⟨x, y, by rw [rv_str r, rv_str r'], p W1 H1 _ s1 pn1 sm1 w_zipS⟩
    | [.val (.list x), .val (.list y)], q, p =>
      refine (pi_zip hg hm ha hs hpl).run pins s σ H R I ⟨W, ρ, π, st, ?_⟩
      rw [q]
      intro W1 H1 vs s1 pn1 sm1 r1
      cases r1 with | cons r t => cases t with | cons r' t =>
        cases t
        obtain ⟨a, xs, rfl, e, z, ra⟩ := rv_lst r
        obtain ⟨b, ys, rfl, e', z', rb⟩ := rv_lst r'
        exact ⟨a, b, xs, ys, rfl, SqL.of (sm1 _ _ e), SqL.of (sm1 _ _ e'), p W1 H1 _ s1 pn1 sm1 (w_zip (SqL.of e) ra (SqL.of e') rb)⟩

/-! ### for -/
def forGo (tg : PyData → List Sv → Option (List Sv)) (f : SS) : List PyData → SS
  | [], ρ, π => .nx ρ π
  | d :: r, ρ, π => match tg d ρ with
    | none => .bad
    | some ρ1 => match f ρ1 π with
      | .nx ρ2 π2 => forGo tg f r ρ2 π2
      | .ct ρ2 π2 => forGo tg f r ρ2 π2
      | .bk ρ2 π2 => .nx ρ2 π2
      | .rt d π2 => .rt d π2
      | .exn n ρ2 π2 => .exn n ρ2 π2
      | .bad => .bad
def sFor (it : SE (List PyData)) (tg : PyData → List Sv → Option (List Sv)) (f : SS) : SS := fun ρ π => thenS (it ρ π) ρ fun ds π' => forGo tg f ds ρ π'
theorem s_for {It0 : Itm} {W0 : Wd} {H0 : Hp} {tgt iter : Expr} {body : List Stmt} {pos : Pos} {it : SE (List PyData)} {g : TG} {is : List Nat} {tg : PyData → List Sv → Option (List Sv)} {f : SS} (hp : PassesOwn (model X.prog X.w) X.A X.env X.xe) (hc : X.calm = true) (hi : PI X tgt iter (tIG It0 M B it)) (hg : PG X tgt g) (gd : GDG It0 g is tg)
    (hb : PSs X body (tS M W0 H0 B f)) (hs : ∀ x, foldedSetIterable iter X.env x = pure x := by intro _; rfl) : PS X (.For tgt iter body [] pos) (tS M W0 H0 B (sFor it tg f)) := by
  refine PS.weak (ps_for hp hc hi hg hb hs) ?_
  rintro D σ H ⟨W, ρ, π, st, p⟩
  refine ⟨W, ρ, π, st.st, ?_⟩
  unfold sFor at p
  cases q : it ρ π with
  | bad => rw [q] at p; exact p
  | exn n π' => rw [q] at p; exact fun W' H' C s pn sm e => p W' H' σ C (st.step s pn sm) s.sub e
  | ok ds π' =>
    rw [q] at p
    have p : PostS M W0 H0 B W.F D (forGo tg f ds ρ π') := p
    intro W1 H1 J s1 pn1 sm1 w
    refine ⟨fun i m σ H => m = ds.length - i ∧ i ≤ ds.length ∧ ∃ W2 ρ2 π2, StR M W0 H0 W2 H ρ2 π2 σ ∧ Same W1.F W2.F ∧ PostS M W0 H0 B W2.F D (forGo tg f (ds.drop i) ρ2 π2), ⟨ds.length, by simp, Nat.zero_le _, W1, ρ, π', st.step s1 pn1 sm1, Same.refl _, PostS.weak p s1.sub⟩, ?_⟩
    rintro i m σ2 H2 ⟨rfl, hi, W2, ρ2, π2, r2, ss, p2⟩
    by_cases hlt : i < ds.length
    · refine .inr ⟨w.go i H2 hlt (ss.trans r2.st.same), fun σ' H' => ∃ W3 ρ3 π3, StR M W0 H0 W3 H' ρ3 π3 σ' ∧ Same W1.F W3.F ∧ PostS M W0 H0 B W3.F D (forGo tg f (ds.drop (i + 1)) ρ3 π3), fun σ' H' h => ⟨ds.length - (i + 1), by omega, rfl, hlt, h⟩, fun x H3 y => ?_⟩
      have ei : ds[i]? = some ds[i] := by simp [hlt]
      obtain ⟨W3, s3, pn3, sm3, rx⟩ := w.yld i H2 x H3 W2 π2 ds[i] y ei ss r2.st.same r2.st.pen
      have r3 := r2.step s3 pn3 sm3
      rw [List.drop_eq_getElem_cons hlt] at p2
      unfold forGo at p2
      cases q3 : tg ds[i] ρ2 with
      | none => simp only [q3] at p2; exact p2.elim
      | some ρ3 =>
        simp only [q3] at p2
        refine gd.run r3.st rx q3 fun σ4 st4 o4 _ _ => ⟨W3, ρ3, π2, ⟨st4, r3.go, fun j a es h1 h2 => ?_⟩, ?_⟩
        · obtain ⟨a1, a2⟩ := o4 j es h1
          rw [a2] at h2
          exact r3.new j a es a1 h2
        · have ss3 := ss.trans s3.sub
          cases q4 : f ρ3 π2 with
          | nx ρ5 π5 => simp only [q4] at p2; exact fun W' H' σ' h1 h2 => ⟨W', ρ5, π5, h1, ss3.trans h2, PostS.weak p2 (s3.sub.trans h2)⟩
          | ct ρ5 π5 => simp only [q4] at p2; exact fun W' H' σ' h1 h2 => ⟨W', ρ5, π5, h1, ss3.trans h2, PostS.weak p2 (s3.sub.trans h2)⟩
          | bk ρ5 π5 => simp only [q4] at p2; exact fun W' H' σ' h1 h2 => p2 W' H' σ' h1 (s3.sub.trans h2)
          | rt d π5 => simp only [q4] at p2; exact p2
          | exn n ρ5 π5 => simp only [q4] at p2; exact fun W' H' σ' C h1 h2 => p2 W' H' σ' C h1 (s3.sub.trans h2)
          | bad => simp only [q4] at p2; exact p2
    · have e : i = ds.length := by omega
      subst e
      rw [List.drop_length] at p2
      exact .inl ⟨w.stop H2 (ss.trans r2.st.same), p2 W2 H2 σ2 r2 (Same.refl _)⟩
/-! ### while: so many turns at most -/
def whileGo (c : SE Bool) (f : SS) : Nat → SS
  | 0, _, _ => .bad
  | n + 1, ρ, π => thenS (c ρ π) ρ fun b π1 => if b = true then (match f ρ π1 with
      | .nx ρ2 π2 => whileGo c f n ρ2 π2
      | .ct ρ2 π2 => whileGo c f n ρ2 π2
      | .bk ρ2 π2 => .nx ρ2 π2
      | .rt d π2 => .rt d π2
      | .exn n ρ2 π2 => .exn n ρ2 π2
      | .bad => .bad) else .nx ρ π1
theorem s_while (n : Nat) {W0 : Wd} {H0 : Hp} {c : Expr} {body : List Stmt} {pos : Pos} {t : SE Bool} {f : SS} (hp : PassesOwn (model X.prog X.w) X.A X.env X.xe) (hc : PT X c (tT M B t)) (hb : PSs X body (tS M W0 H0 B f)) : PS X (.While c body [] pos) (tS M W0 H0 B (whileGo t f n)) := by
  refine PS.weak (ps_while hp hc hb) ?_
  rintro D σ H ⟨W, ρ, π, st, p⟩
  refine ⟨fun m σ H => ∃ W2 ρ2 π2, StR M W0 H0 W2 H ρ2 π2 σ ∧ PostS M W0 H0 B W2.F D (whileGo t f m ρ2 π2), ⟨n, W, ρ, π, st, p⟩, ?_⟩
  rintro m σ2 H2 ⟨W2, ρ2, π2, r2, p2⟩
  cases m with
  | zero => exact p2.elim
  | succ m =>
    refine ⟨W2, ρ2, π2, r2.st, thenS_post r2 p2 fun b π3 W3 H3 v s3 r3 rv p3 => ?_⟩
    subst rv
    cases v with
    | false => rw [if_neg Bool.false_ne_true] at p3 ⊢; exact p3 W3 H3 σ2 r3 (Same.refl _)
    | true =>
      rw [if_pos rfl] at p3 ⊢
      refine ⟨fun σ' H' => ∃ W4 ρ4 π4, StR M W0 H0 W4 H' ρ4 π4 σ' ∧ PostS M W0 H0 B W4.F D (whileGo t f m ρ4 π4), fun σ' H' h => ⟨m, Nat.lt_succ_self _, h⟩, W3, ρ2, π3, r3, ?_⟩
      cases q4 : f ρ2 π3 with
      | nx ρ5 π5 => simp only [q4] at p3; exact fun W' H' σ' h1 h2 => ⟨W', ρ5, π5, h1, PostS.weak p3 h2⟩
      | ct ρ5 π5 => simp only [q4] at p3; exact fun W' H' σ' h1 h2 => ⟨W', ρ5, π5, h1, PostS.weak p3 h2⟩
      | bk ρ5 π5 => simp only [q4] at p3; exact p3
      | rt d π5 => simp only [q4] at p3; exact p3
      | exn n ρ5 π5 => simp only [q4] at p3; exact p3
      | bad => simp only [q4] at p3; exact p3
end
end DL

set_option maxRecDepth 100000
set_option maxHeartbeats 8000000
namespace DL
open PySem PySem.Spec PyProof.Rows L2

/-! ### comprehensions -/
abbrev B0 : WX := fun _ _ _ _ => False
def wipeS (ρ : List Sv) : List Nat → List Sv
  | [] => ρ
  | v :: vs => (wipeS ρ vs).set v .emp
theorem wipeS_len (ρ : List Sv) : ∀ vs, (wipeS ρ vs).length = ρ.length
  | [] => rfl
  | v :: vs => by unfold wipeS; rw [List.length_set, wipeS_len ρ vs]
theorem wipe_out' {σ : L2.St} {i : Nat} : ∀ {vs : List Nat}, i ∉ vs → (wipe σ vs)[i]? = σ[i]?
  | [], _ => rfl
  | v :: vs, h => by
    unfold wipe
    rw [List.getElem?_set_ne (fun z => h (by simp [z]))]
    exact wipe_out' fun z => h (List.mem_cons_of_mem _ z)
theorem wipe_in {σ : L2.St} {i : Nat} (hi : i < σ.length) : ∀ {vs : List Nat}, i ∈ vs → (wipe σ vs)[i]? = some none
  | v :: vs, h => by
    unfold wipe
    by_cases e : v = i
    · subst e; rw [List.getElem?_set_self (by rw [wipe_length]; exact hi)]
    · rw [List.getElem?_set_ne e]
      exact wipe_in hi ((List.mem_cons.mp h).resolve_left fun z => e z.symm)
theorem wipe_eq {σ τ : L2.St} {vs : List Nat} (hl : σ.length = τ.length) (h : ∀ j, j ∉ vs → σ[j]? = τ[j]?) : wipe σ vs = wipe τ vs := by
  apply List.ext_getElem?
  intro i
  by_cases hi : i ∈ vs
  · by_cases hl2 : i < σ.length
    · rw [wipe_in hl2 hi, wipe_in (by rw [← hl]; exact hl2) hi]
    · rw [List.getElem?_eq_none (by rw [wipe_length]; omega), List.getElem?_eq_none (by rw [wipe_length]; omega)]
  · rw [wipe_out' hi, wipe_out' hi, h i hi]
theorem StE.wipe {M : Md} {W : Wd} {H : Hp} {ρ : List Sv} {π : Pn} {σ : L2.St} (r : StE M W H ρ π σ) : ∀ vs, StE M W H (wipeS ρ vs) π (L2.wipe σ vs)
  | [] => r
  | v :: vs => by
    have t := r.wipe vs
    unfold wipeS L2.wipe
    refine ⟨t.same, t.pen, t.tbe, by simp [t.len], fun i s e => ?_, fun i j a ds es h1 h2 h3 h4 => ?_⟩
    · rcases get_set e with ⟨rfl, rfl, hl⟩ | ⟨ne, e⟩
      · exact ⟨none, by rw [List.getElem?_set_self (by rw [← t.len]; exact hl)], .emp⟩
      · obtain ⟨o, g1, g2⟩ := t.sl i s e
        exact ⟨o, by rw [List.getElem?_set_ne ne]; exact g1, g2⟩
    · rcases get_set h1 with ⟨_, z, _⟩ | ⟨n1, h1⟩
      · cases z
      · rcases get_set h2 with ⟨_, z, _⟩ | ⟨n2, h2⟩
        · cases z
        · rw [List.getElem?_set_ne n1] at h3
          rw [List.getElem?_set_ne n2] at h4
          exact t.apart i j a ds es h1 h2 h3 h4
def noexn {α : Type} : Res α → Res α
  | .ok a π => .ok a π
  | _ => .bad
def compGo (tg : PyData → List Sv → Option (List Sv)) (c : SE Bool) (f : SE Dv) (ρ : List Sv) : List PyData → Pn → Res (List PyData)
  | [], π => .ok [] π
  | d :: r, π => match tg d ρ with
    | none => .bad
    | some ρ1 => (noexn (c ρ1 π)).bind fun b π1 => if b = true then (noexn (f ρ1 π1)).bind fun v π2 => (match v with
        | .val y => (compGo tg c f ρ r π2).bind fun ds π3 => .ok (y :: ds) π3
        | _ => .bad) else compGo tg c f ρ r π1
def lComp (it : SE (List PyData)) (tg : PyData → List Sv → Option (List Sv)) (c : SE Bool) (f : SE Dv) (vs : List Nat) : SE (List PyData) := fun ρ π => (it ρ π).bind fun ds π1 => if ds.length < 16777216 then compGo tg c f (wipeS ρ vs) ds π1 else .bad
def PostC (M : Md) (W : Wd) (H : Hp) (D : Addr) (Q : VK) (acc : List PyData) : Res (List PyData) → Prop
  | .ok ds π' => ∀ W' H' xs, Step W H W' H' → PenOk W' H' π' → Same W'.F H' → W'.F D = none → W'.pa ≠ some D → H' D = some (.lst xs) → xs.length ≤ sizeLine → DqAll W'.F xs (acc ++ ds) → Q (.ref D) H'
  | _ => False
def tYesF : SE Bool := fun _ π => .ok true π
section
variable {X : Cx} {tb : Tb} {M : Md} {B : WX}
theorem ts_nil : PTs X [] (tT M B tYesF) := ⟨fun pins s σ H Q I ⟨W, ρ, π, st, p⟩ => pts_nil.run pins s σ H Q I (p.now st.pen st.same rfl)⟩
theorem ts_one {c : Expr} {t : SE Bool} (h : PT X c (tT M B t)) : PTs X [c] (tT M B t) := pts_one h
/-- writing to the new list D -/
theorem StE.writeD {W : Wd} {H : Hp} {ρ : List Sv} {π : Pn} {σ : L2.St} {D : Addr} {xs ys : List V} (r : StE M W H ρ π σ) (nf : W.F D = none) (np : W.pa ≠ some D) (e : H D = some (.lst xs)) (ap : ∀ (i : Nat) (ds : List PyData), ρ[i]? = some (.own ds) → σ[i]? ≠ some (some (.ref D))) :
    StE M W (upd H D (.lst ys)) ρ π σ := by
  refine ⟨fun b u x => ?_, ?_, r.tbe, r.len, fun i s h => ?_, r.apart⟩
  · have : b ≠ D := fun z => by rw [z, nf] at x; cases x
    rw [upd_ne this]; exact r.same b u x
  · have pn := r.pen
    refine ⟨?_, fun P hP => ⟨(pn.tab P hP).1, (pn.tab P hP).2.upd (tab_ne (pn.tab P hP).2 e .lst)⟩⟩
    cases π with
    | none => exact pn.pen
    | some pe =>
      obtain ⟨b, cb, k1, k2, k3, k4, k5⟩ := pn.pen
      have : b ≠ D := fun z => np (z ▸ k1)
      exact ⟨b, cb, k1, k2, by rw [upd_ne this]; exact k3, k4, k5⟩
  · obtain ⟨o, g1, g2⟩ := r.sl i s h
    refine ⟨o, g1, ?_⟩
    cases g2 with
    | emp => exact .emp
    | val rv => exact .val rv
    | @own b zs fs f1 f2 f3 f4 f5 =>
      have : b ≠ D := fun z => by subst z; exact ap i fs h g1
      exact .own f1 f2 (by rw [upd_ne this]; exact f3) f4 f5
theorem step_D {W W' : Wd} {H H' : Hp} {D : Addr} {o : HO} (s : Step W H W' H') (n : H D = none) : Step W H W' (upd H' D o) :=
  ⟨s.sub, s.grow, fun a u e np k => by rw [upd_ne (ne_of_none e n)]; exact s.keep a u e np k, fun a e => by
    by_cases h : a = D
    · subst h; exact n
    · rw [upd_ne h] at e; exact s.there a e, s.pa, s.newpa, s.tb⟩
theorem lc_imp {It0 : Itm} {it : SE (List PyData)} {g : TG} {is vs : List Nat} {tg : PyData → List Sv → Option (List Sv)} {c : SE Bool} {f : SE Dv} (gd : GDG It0 g is tg) (hv : ∀ i ∈ is, i ∈ vs) :
    ∀ σ H Q, tL M B (lComp it tg c f vs) σ H Q → tLc (tIG It0 M B it) g (tT M B0 c) (tE M B0 f) vs σ H Q := by
  rintro σ H Q ⟨W, ρ, π, st, p⟩
  refine ⟨W, ρ, π, st, ?_⟩
  unfold lComp at p
  cases q : it ρ π with
  | bad => rw [q] at p; exact p
  | exn n π' => rw [q] at p; exact p
  | ok ds π1 =>
    rw [q] at p
    have p : PostL M B W H σ Q (if ds.length < 16777216 then compGo tg c f (wipeS ρ vs) ds π1 else .bad) := p
    intro W1 H1 J s1 pn1 sm1 w
    split at p
    case isFalse => exact p.elim
    case isTrue hlen =>
    intro D nD
    have st1 := (st.step s1 pn1 sm1).wipe vs
    have apD : ∀ {W2 : Wd} {H2 : Hp} {π2 : Pn}, StE M W1 H1 (wipeS ρ vs) π1 (L2.wipe σ vs) → ∀ (i : Nat) (es : List PyData), (wipeS ρ vs)[i]? = some (.own es) → (L2.wipe σ vs)[i]? ≠ some (some (.ref D)) := fun t i es h1 h2 => by
      obtain ⟨o, g1, g2⟩ := t.sl i _ h1
      rw [h2] at g1; cases g1
      cases g2 with
      | own _ _ h3 _ _ => rw [nD] at h3; cases h3
    have ap := apD (W2 := W1) (H2 := H1) (π2 := π1) st1
    obtain ⟨sD, pnD, smD⟩ := freshOwn (o := .lst []) sm1 pn1 nD
    have npD : W1.pa ≠ some D := pn1.npa nD
    have p0 : PostC M W1 H1 D Q [] (compGo tg c f (wipeS ρ vs) ds π1) := by
      cases e : compGo tg c f (wipeS ρ vs) ds π1 with
      | bad => rw [e] at p; exact p
      | exn n π' =>
        exfalso
        have no : ∀ (l : List PyData) (π : Pn) n π', compGo tg c f (wipeS ρ vs) l π ≠ .exn n π' := by
          intro l
          induction l with
          | nil => intro π n π' z; cases z
          | cons d r ih =>
            intro π n π' z
            unfold compGo at z
            cases q1 : tg d (wipeS ρ vs) with
            | none => simp only [q1] at z; cases z
            | some ρ1 =>
              simp only [q1] at z
              cases q2 : c ρ1 π with
              | bad => rw [q2] at z; cases z
              | exn _ _ => rw [q2] at z; cases z
              | ok b π2 =>
                rw [q2] at z
                simp only [noexn, Res.bind] at z
                split at z
                · cases q3 : f ρ1 π2 with
                  | bad => rw [q3] at z; cases z
                  | exn _ _ => rw [q3] at z; cases z
                  | ok v π3 =>
                    rw [q3] at z
                    simp only at z
                    split at z
                    · cases q4 : compGo tg c f (wipeS ρ vs) r π3 with
                      | bad => rw [q4] at z; cases z
                      | ok _ _ => rw [q4] at z; cases z
                      | exn _ _ => exact ih _ _ _ q4
                    · cases z
                · exact ih _ _ _ z
        exact no _ _ _ _ e
      | ok es π' =>
        rw [e] at p
        exact fun W' H' xs s pn sm a1 a2 a3 a4 a5 => p W' H' D xs (s1.trans s) pn sm (s1.there D nD) a1 a2 a3 a4 a5
    refine ⟨fun i m H => m = ds.length - i ∧ i ≤ ds.length ∧ ∃ W2 π2 xs acc, Step W1 H1 W2 H ∧ StE M W2 H (wipeS ρ vs) π2 (L2.wipe σ vs) ∧ W2.F D = none ∧ W2.pa ≠ some D ∧ H D = some (.lst xs) ∧ xs.length ≤ i ∧ DqAll W2.F xs acc ∧ PostC M W1 H1 D Q acc (compGo tg c f (wipeS ρ vs) (ds.drop i) π2),
      ⟨ds.length, by simp, Nat.zero_le _, W1, π1, [], [], sD, st1.step sD pnD smD, sm1.free nD, npD, upd_same, Nat.le_refl _, .nil, p0⟩, ?_⟩
    rintro i m H2 ⟨rfl, hi, W2, π2, xs, acc, s2, st2, nf2, np2, e2, l2, r2, p2⟩
    by_cases hlt : i < ds.length
    · refine .inr ⟨w.go i H2 hlt (s2.sub.trans st2.same), fun H' => ∃ W3 π3 xs acc, Step W1 H1 W3 H' ∧ StE M W3 H' (wipeS ρ vs) π3 (L2.wipe σ vs) ∧ W3.F D = none ∧ W3.pa ≠ some D ∧ H' D = some (.lst xs) ∧ xs.length ≤ i + 1 ∧ DqAll W3.F xs acc ∧ PostC M W1 H1 D Q acc (compGo tg c f (wipeS ρ vs) (ds.drop (i + 1)) π3),
        fun H' h => ⟨ds.length - (i + 1), by omega, rfl, hlt, h⟩, fun x H3 y => ?_⟩
      have ei : ds[i]? = some ds[i] := by simp [hlt]
      obtain ⟨W3, s3, pn3, sm3, rx⟩ := w.yld i H2 x H3 W2 π2 ds[i] y ei s2.sub st2.same st2.pen
      rw [List.drop_eq_getElem_cons hlt] at p2
      unfold compGo at p2
      cases q3 : tg ds[i] (wipeS ρ vs) with
      | none => simp only [q3] at p2; exact p2.elim
      | some ρ3 =>
        simp only [q3] at p2
        refine gd.run (st2.step s3 pn3 sm3) rx q3 fun σ4 st4 o4 f4 l4 => ⟨?_, W3, ρ3, π2, st4, ?_⟩
        · refine (wipe_eq l4 fun j hj => f4 j fun z => hj (hv j z)).trans ?_
          exact wipe_eq (wipe_length _ _) fun j hj => wipe_out' hj
        cases q4 : c ρ3 π2 with
        | bad => rw [q4] at p2; exact p2.elim
        | exn _ _ => rw [q4] at p2; exact p2.elim
        | ok b π4 =>
          rw [q4] at p2
          simp only [noexn, Res.bind] at p2
          intro W4 H4 b' s4 pn4 sm4 eb
          subst eb
          have s14 := s2.trans (s3.trans s4)
          have s24 := s3.trans s4
          have nf4 : W4.F D = none := by
            cases z : W4.F D with
            | none => rfl
            | some o =>
              rcases s24.grow D o z with k | k
              · rw [nf2] at k; cases k
              · rw [e2] at k; cases k
          have np4 : W4.pa ≠ some D := fun z => by
            rcases s24.newpa D z with k | k
            · exact np2 k
            · rw [e2] at k; cases k
          have e4 : H4 D = some (.lst xs) := s24.keep D _ e2 np2 .lst
          cases b' with
          | false =>
            rw [if_neg Bool.false_ne_true] at p2 ⊢
            exact ⟨W4, π4, xs, acc, s14, st2.step s24 pn4 sm4, nf4, np4, e4, Nat.le_succ_of_le l2, r2.mono s24.sub, p2⟩
          | true =>
            rw [if_pos rfl] at p2 ⊢
            refine ⟨W4, ρ3, π4, st4.step s4 pn4 sm4, ?_⟩
            cases q5 : f ρ3 π4 with
            | bad => rw [q5] at p2; exact p2.elim
            | exn _ _ => rw [q5] at p2; exact p2.elim
            | ok v π5 =>
              rw [q5] at p2
              simp only at p2
              intro W5 H5 y' s5 pn5 sm5 ry
              have s25 := s24.trans s5
              have s15 := s14.trans s5
              cases v with
              | pen => exact p2.elim
              | scr _ => exact p2.elim
              | err _ => exact p2.elim
              | ppr _ => exact p2.elim
              | dct _ => exact p2.elim
              | fn _ => exact p2.elim
              | val yd =>
                have ry : Dq W5.F y' yd := by cases ry with | val r => exact r
                have nf5 : W5.F D = none := by
                  cases z : W5.F D with
                  | none => rfl
                  | some o =>
                    rcases s5.grow D o z with k | k
                    · rw [nf4] at k; cases k
                    · rw [e4] at k; cases k
                have np5 : W5.pa ≠ some D := fun z => by
                  rcases s5.newpa D z with k | k
                  · exact np4 k
                  · rw [e4] at k; cases k
                have e5 : H5 D = some (.lst xs) := s5.keep D _ e4 np4 .lst
                have hz : xs.length < sizeLine := by
                  have := sizeLine_eq
                  omega
                have st5 := st2.step s25 pn5 sm5
                refine ⟨xs, e5, hz, W5, π5, xs ++ [y'], acc ++ [yd], step_D s15 nD, st5.writeD nf5 np5 e5 ap, nf5, np5, upd_same, by simp; exact l2, (r2.mono s25.sub).append (.cons ry .nil), ?_⟩
                cases q6 : compGo tg c f (wipeS ρ vs) (ds.drop (i + 1)) π5 with
                | bad => rw [q6] at p2; exact p2
                | exn _ _ => rw [q6] at p2; exact p2
                | ok es π6 =>
                  rw [q6] at p2
                  intro W' H' zs s6 pn6 sm6 a1 a2 a3 a4 a5
                  exact p2 W' H' zs s6 pn6 sm6 a1 a2 a3 a4 (by rw [List.append_assoc] at a5; exact a5)
    · have e : i = ds.length := by omega
      subst e
      rw [List.drop_length] at p2
      refine .inl ⟨w.stop H2 (s2.sub.trans st2.same), p2 W2 H2 xs s2 st2.pen st2.same nf2 np2 e2 ?_ (by rw [List.append_nil]; exact r2)⟩
      have := sizeLine_eq
      omega
end
end DL

set_option maxRecDepth 100000
set_option maxHeartbeats 8000000
namespace DL
open PySem PySem.Spec PyProof.Rows L2
section
variable {X : Cx} {tb : Tb} {M : Md} {B : WX} {W0 : Wd} {H0 : Hp}
theorem l_comp {It0 : Itm} {elt tg iter : Expr} {ifs : List Expr} {scope : Scope} {pos : Pos} {it : SE (List PyData)} {g : TG} {is : List Nat} {tgt : PyData → List Sv → Option (List Sv)} {c : SE Bool} {f : SE Dv} (own : List (Str × Nat)) (hc : X.calm = true) (hN : X.N.Nodup) (hi : PI X tg iter (tIG It0 M B it))
    (ok : BlkOk X.N X.env.scope scope own) (gd : GDG It0 g is tgt) (hv : ∀ i ∈ is, i ∈ own.map (·.2))
    (hg : ∀ (s : Shared) (H : Hp) (C : Addr) (cl : List (Str × Addr)) (fp : List Addr), PG (Cx.blk X s H scope (compEnvC scope cl C X.env) fp) tg g) (ht : ∀ (s : Shared) (H : Hp) (C : Addr) (cl : List (Str × Addr)) (fp : List Addr), PTs (Cx.blk X s H scope (compEnvC scope cl C X.env) fp) ifs (tT M B0 c))
    (he : ∀ (s : Shared) (H : Hp) (C : Addr) (cl : List (Str × Addr)) (fp : List Addr), PE (Cx.blk X s H scope (compEnvC scope cl C X.env) fp) elt (tE M B0 f)) (hs : ∀ x, foldedSetIterable iter X.env x = pure x := by intro _; rfl) :
    PE X (.ListComp elt [⟨tg, iter, ifs, 0⟩] scope pos) (tL M B (lComp it tgt c f (own.map (·.2)))) := PE.weak (pe_lc hc hN hi ok hg ht he hs) (lc_imp gd hv)
theorem s_setLc {It0 : Itm} {elt tg iter : Expr} {ifs : List Expr} {scope : Scope} {py pos spos : Pos} {y : Str} {it : SE (List PyData)} {g : TG} {is : List Nat} {tgt : PyData → List Sv → Option (List Sv)} {c : SE Bool} {f : SE Dv} (i : Nat) (own : List (Str × Nat)) (hc : X.calm = true) (hN : X.N.Nodup) (hi : PI X tg iter (tIG It0 M B it))
    (ok : BlkOk X.N X.env.scope scope own) (gd : GDG It0 g is tgt) (hv : ∀ i ∈ is, i ∈ own.map (·.2))
    (hg : ∀ (s : Shared) (H : Hp) (C : Addr) (cl : List (Str × Addr)) (fp : List Addr), PG (Cx.blk X s H scope (compEnvC scope cl C X.env) fp) tg g) (ht : ∀ (s : Shared) (H : Hp) (C : Addr) (cl : List (Str × Addr)) (fp : List Addr), PTs (Cx.blk X s H scope (compEnvC scope cl C X.env) fp) ifs (tT M B0 c))
    (he : ∀ (s : Shared) (H : Hp) (C : Addr) (cl : List (Str × Addr)) (fp : List Addr), PE (Cx.blk X s H scope (compEnvC scope cl C X.env) fp) elt (tE M B0 f))
    (hy : X.N[i]? = some y := by rfl) (hyl : X.env.scope.names.lookup y = some .local := by rfl) (hsw : swapsWith (.ListComp elt [⟨tg, iter, ifs, 0⟩] scope pos) (some (.Name y py)) spos.line X.env = pure true := by exact sw_true rfl rfl rfl (by decide +kernel)) (hs : ∀ x, foldedSetIterable iter X.env x = pure x := by intro _; rfl) :
    PS X (.Assign [.Name y py] (.ListComp elt [⟨tg, iter, ifs, 0⟩] scope pos) spos) (tS M W0 H0 B (sSet i (eFrz (lComp it tgt c f (own.map (·.2)))))) :=
  PS.weak (ps_setLc hc hN hy hyl hsw hi ok hg ht he hs) (set_imp fun σ H Q h => lc_imp gd hv σ H Q (frz_imp σ H Q h))
theorem s_setLcO {It0 : Itm} {elt tg iter : Expr} {ifs : List Expr} {scope : Scope} {py pos spos : Pos} {y : Str} {it : SE (List PyData)} {g : TG} {is : List Nat} {tgt : PyData → List Sv → Option (List Sv)} {c : SE Bool} {f : SE Dv} (i : Nat) (own : List (Str × Nat)) (hc : X.calm = true) (hN : X.N.Nodup) (hi : PI X tg iter (tIG It0 M B it))
    (ok : BlkOk X.N X.env.scope scope own) (gd : GDG It0 g is tgt) (hv : ∀ i ∈ is, i ∈ own.map (·.2))
    (hg : ∀ (s : Shared) (H : Hp) (C : Addr) (cl : List (Str × Addr)) (fp : List Addr), PG (Cx.blk X s H scope (compEnvC scope cl C X.env) fp) tg g) (ht : ∀ (s : Shared) (H : Hp) (C : Addr) (cl : List (Str × Addr)) (fp : List Addr), PTs (Cx.blk X s H scope (compEnvC scope cl C X.env) fp) ifs (tT M B0 c))
    (he : ∀ (s : Shared) (H : Hp) (C : Addr) (cl : List (Str × Addr)) (fp : List Addr), PE (Cx.blk X s H scope (compEnvC scope cl C X.env) fp) elt (tE M B0 f))
    (hy : X.N[i]? = some y := by rfl) (hyl : X.env.scope.names.lookup y = some .local := by rfl) (hsw : swapsWith (.ListComp elt [⟨tg, iter, ifs, 0⟩] scope pos) (some (.Name y py)) spos.line X.env = pure true := by exact sw_true rfl rfl rfl (by decide +kernel)) (hs : ∀ x, foldedSetIterable iter X.env x = pure x := by intro _; rfl) :
    PS X (.Assign [.Name y py] (.ListComp elt [⟨tg, iter, ifs, 0⟩] scope pos) spos) (tS M W0 H0 B (sSetO i (lComp it tgt c f (own.map (·.2))))) :=
  PS.weak (ps_setLc hc hN hy hyl hsw hi ok hg ht he hs) (setO_imp fun σ H Q h => lc_imp gd hv σ H Q h)
end

/-! ### defs -/
abbrev Mu := List Dv → Pn → Res Dv
structure FnG (P : Program) (w : World) (K : PySem.W.Frag) (mg : Str → Option Value) (base : Heap) (tb : Tb) (k : Nat) (f : Addr) (fd : FuncData) (ps : List Str) (μ : Mu) : Prop where
  run : ∀ (A : Around) (outer : List Env) (s : Shared) (H : Hp) (args : Args) (us : List Value) (vs : List V) (W : Wd) (ds : List Dv) (π : Pn) (Q : VK) (E : XK), Room k A → A.guards = some [] → Env0 P w K mg base A outer s H → BindsTo s fd args (ps.zip us) → Vals vs us → RvL ⟨K, mg, tb⟩ W vs ds → ds.length = ps.length → W.tb = tb →
    Same W.F H → PenOk W H π → Post ⟨K, mg, tb⟩ (Rv ⟨K, mg, tb⟩) (fun c d _ H' => E c d H') W H [] Q (μ ds π) → codeAny (model P w) A (.call (.ref f) args) (CR (L2.CX P w) outer P w H s Q E) s
def runF (n : Nat) (body : SS) : Mu := fun ds π => match body (ds.map Sv.val ++ List.replicate (n - ds.length) .emp) π with
  | .rt d π' => .ok d π'
  | .nx _ π' => .ok (.val .none) π'
  | .exn n _ π' => .exn n π'
  | _ => .bad
section
variable {P : Program} {w : World} {K : PySem.W.Frag} {mg : Str → Option Value} {base : Heap} {tb : Tb}
theorem FnG.mono {j k : Nat} {f : Addr} {fd : FuncData} {ps : List Str} {μ : Mu} (F : FnG P w K mg base tb j f fd ps μ) (h : j ≤ k) : FnG P w K mg base tb k f fd ps μ := ⟨fun A outer s H args us vs W ds π Q E hr => F.run A outer s H args us vs W ds π Q E (hr.mono h)⟩
theorem FnG.imp {k : Nat} {f : Addr} {fd : FuncData} {ps : List Str} {μ ν : Mu} (F : FnG P w K mg base tb k f fd ps μ) (h : ∀ ds π, ds.length = ps.length → ν ds π = μ ds π ∨ ν ds π = .bad) : FnG P w K mg base tb k f fd ps ν := ⟨fun A outer s H args us vs W ds π Q E hr hg e0 hb rv rd hl tt sm pn p => by
  rcases h ds π hl with e | e
  · rw [e] at p; exact F.run A outer s H args us vs W ds π Q E hr hg e0 hb rv rd hl tt sm pn p
  · rw [e] at p; exact p.elim⟩
theorem get_start {vs : List V} {ds : List Dv} {M : Md} {W : Wd} {H : Hp} (r : RvL M W vs ds) (k : Nat) : ∀ (i : Nat) (s : Sv), (ds.map Sv.val ++ List.replicate k Sv.emp)[i]? = some s → ∃ o, (vs.map some ++ List.replicate k (none : Option V))[i]? = some o ∧ Sl M W H s o := by
  induction r with
  | nil =>
    intro i s e
    simp only [List.map_nil, List.nil_append] at e ⊢
    rw [List.getElem?_replicate] at e ⊢
    split at e
    · cases e; exact ⟨none, by rw [if_pos (by assumption)], .emp⟩
    · cases e
  | cons r t ih =>
    intro i s e
    cases i with
    | zero => cases e; exact ⟨_, rfl, .val r⟩
    | succ i => exact ih i s e
theorem start_ok {N : List Str} {vs : List V} {ds : List Dv} {W : Wd} {H : Hp} {π : Pn} {M : Md} (r : RvL M W vs ds) (tt : W.tb = M.tb) (sm : Same W.F H) (pn : PenOk W H π) : StR M W H W H (ds.map Sv.val ++ List.replicate (N.length - ds.length) .emp) π (L2.start N vs) := by
  have hl := r.length
  have no : ∀ (i : Nat) (es : List PyData), (ds.map Sv.val ++ List.replicate (N.length - ds.length) Sv.emp)[i]? ≠ some (.own es) := fun i es h => by
    obtain h := List.mem_of_getElem? h
    rcases List.mem_append.mp h with h | h
    · obtain ⟨d, _, e⟩ := List.mem_map.mp h; cases e
    · have := List.eq_of_mem_replicate h; cases this
  refine ⟨⟨sm, pn, tt, ?_, ?_, fun i j a ds es h1 => absurd h1 (no i ds)⟩, Step.refl _ _, fun i a ds h1 => absurd h1 (no i ds)⟩
  · unfold L2.start; simp [hl]
  · unfold L2.start
    rw [hl]
    exact get_start r _
/-- how a def stands, its defaults whatever they are -/
def Stands (K : PySem.W.Frag) (x qual : Str) (st : Stmt) (f : Addr) (fd : FuncData) : Prop := ∃ (oc : Value) (od : Option Addr) (dV kV doc pm : Value) (an : Option Addr) (cdv ct : Value) (osl : Array (Option Value)),
  fd = PySem.W.fnOf x qual (defArgs st) (defBody st) (defScope st) dV kV doc pm an cdv ct ∧ K.lookup f = some ⟨oc, od, .func fd, osl⟩ ∧ PySem.W.codeIn K cdv qual = true
/-- THE RULE for a def -/
theorem fng_st {x qual : Str} {st : Stmt} {f : Addr} {fd : FuncData} {N ps : List Str} {k : Nat} {body : SS} (F : Stands K x qual st f fd) (S : FnScope N ps (defScope st))
    (hbody : ∀ (cdv : Value), fd.code = cdv → ∀ (A : Around) (outer : List Env) (s : Shared) (H : Hp) (E : XK) (W0 : Wd), Room k (A.deeper (envOfC qual (defScope st) s.heap.objs.size f cdv)) → (A.deeper (envOfC qual (defScope st) s.heap.objs.size f cdv)).guards = some [] →
      PSs (cxOf (L2.CX P w) P w K mg base N qual (defScope st) f cdv A outer s H E) (defBody st) (tS ⟨K, mg, tb⟩ W0 H (fun c d _ H' => E c d H') body)) : FnG P w K mg base tb (k + 1) f fd ps (runF N.length body) := by
  obtain ⟨oc, od, dV, kV, doc, pm, an, cdv, ct, osl, rfl, lk, hcd⟩ := F
  refine ⟨fun A outer s H args us vs W ds π Q E hr hg e0 hb r rd hl tt sm pn p => ?_⟩
  have hlv : vs.length = ps.length := rd.length.trans hl
  have KX : K.In s.heap := e0.mod.kin.keeps fun b o e => (e0.bs b o e).1
  have lim : s.heap.NoLimit := e0.mod.nolimit.keeps fun b o e => (e0.bs b o e).1
  have hkind : ∀ y ∈ ps.zip us, (defScope st).names.lookup y.1 = some .local ∨ ((defScope st).names.lookup y.1 = some .cell ∧ ((cellsFrom (s.heap.objs.size + 1) (defScope st).names []).lookup y.1).isSome = true) := fun ⟨n, v⟩ hy => by
    rcases S.par n (List.of_mem_zip hy).1 with q | q
    · exact .inl q
    · exact .inr ⟨q, PySem.W.cellsFrom_some _ _ _ (.inl q)⟩
  refine codeAny_call_function hr.depth (KX _ _ lk) rfl S.co S.gen rfl (PySem.W.codeRec_of KX hcd) (hb _ _ _ _ (wpAny_newFunctionEnv_cells S.kind hkind fun env he s1 x => ?_))
  subst he
  refine ⟨lim.keeps x.toInCall.keep, codeAny_func ?_⟩
  have ht := hbody cdv rfl A outer s H E W (hr.deeper _) (by first | exact hg | (show (A.deeper _).guards = some []; simpa [Around.deeper] using hg))
  have I : Inv (cxOf (L2.CX P w) P w K mg base N qual (defScope st) f cdv A outer s H E) [] (L2.start N vs) H s1 := inv_start S hr.hd e0 hlv r x
  have hq : tS ⟨K, mg, tb⟩ W H (fun c d _ H' => E c d H') body { nx := fun _ H' => Q .non H', rt := Q } (L2.start N vs) H := by
    refine ⟨W, _, π, start_ok (N := N) rd tt sm pn, ?_⟩
    unfold runF at p
    split at p
    · rename_i q; rw [q]; exact fun W' H' v s pn sm rv => p W' H' v s pn sm rv
    · rename_i q; rw [q]; exact fun W' H' σ' r _ => p W' H' .non r.go r.st.pen r.st.same (.val .non)
    · rename_i q; rw [q]; exact fun W' H' σ' C r _ e => p W' H' C r.go r.st.pen r.st.same e
    · exact p.elim
  refine wpAny_mono (ht.run [] s1 (L2.start N vs) H _ I hq) (fun fl s' hs => ?_) fun e s' hs => hs
  have fin : ∀ {σ' : L2.St} {H' : Hp} {v : V} {u : Value}, Inv (cxOf (L2.CX P w) P w K mg base N qual (defScope st) f cdv A outer s H E) [] σ' H' s' → RelV v u → Q v H' → CE outer P w H s Q u s' := fun {σ' H' v u} J rv q => ⟨v, H', J.os, J.bare, J.base, J.hok, rv, q⟩
  cases fl with
  | ret u => obtain ⟨v, σ', H', J, rv, q⟩ := hs; exact fin J rv q
  | next => obtain ⟨σ', H', J, q⟩ := hs; exact fin (v := V.non) (u := Value.none) J rfl q
  | brk => obtain ⟨_, _, _, q⟩ := hs; exact False.elim q
  | cont => obtain ⟨_, _, _, q⟩ := hs; exact False.elim q
theorem fng_of {x qual : Str} {st : Stmt} {f : Addr} {fd : FuncData} {N ps : List Str} {k : Nat} {body : SS} (F : Fun K x qual st f fd) (S : FnScope N ps (defScope st))
    (hbody : ∀ (cdv : Value), fd.code = cdv → ∀ (A : Around) (outer : List Env) (s : Shared) (H : Hp) (E : XK) (W0 : Wd), Room k (A.deeper (envOfC qual (defScope st) s.heap.objs.size f cdv)) → (A.deeper (envOfC qual (defScope st) s.heap.objs.size f cdv)).guards = some [] →
      PSs (cxOf (L2.CX P w) P w K mg base N qual (defScope st) f cdv A outer s H E) (defBody st) (tS ⟨K, mg, tb⟩ W0 H (fun c d _ H' => E c d H') body)) : FnG P w K mg base tb (k + 1) f fd ps (runF N.length body) := by
  obtain ⟨oc, od, kV, doc, pm, an, cdv, ct, osl, e, lk, hcd⟩ := F.ex
  exact fng_st ⟨oc, od, _, kV, doc, pm, an, cdv, ct, osl, e, lk, hcd⟩ S hbody
end
section
variable {X : Cx} {tb : Tb} {B : WX} {k : Nat} {f : Addr} {fd : FuncData} {ps : List Str} {μ : Mu}
def eCall (μ : Mu) (g : SE (List Dv)) : SE Dv := fun ρ π => (g ρ π).bind μ
theorem Post.sig {M : Md} {α β : Type} {R : Wd → β → α → Prop} {B : WX} {B' : WX} {W : Wd} {H : Hp} {σ σ' : L2.St} {Q : β → Hp → Prop} {r : Res α} (p : Post M R B W H σ Q r) (h : ∀ c d H, B c d σ H → B' c d σ' H) : Post M R B' W H σ' Q r := by
  cases r with
  | ok a π => exact p
  | exn n π => exact fun W' H' C s pn sm e => h _ _ _ (p W' H' C s pn sm e)
  | bad => exact p
/-- f(e, ..) -/
theorem e_call {x : Str} {p pos : Pos} {e : Expr} {es : List Expr} {g : SE (List Dv)} (F : FnG X.prog X.w X.K X.mg X.base tb k f fd ps μ) (hr : Room k X.A) (gd : X.A.guards = some []) (hm : X.mg x = some (.ref f)) (hk : PySem.W.keepIn X.K (.ref f) = true) (hb : Binds X.K fd ps []) (tk : Takes X B)
    (ha : PA X (e :: es) (tA (Cx.md X tb) B g)) (hl : ∀ ρ π ds π', g ρ π = .ok ds π' → ds.length = ps.length) (hg : Gl X x := by rfl) (hdb : (x == ("__debug__" : Str)) = false := by decide) (he : starEach (e :: es) X.env = (false, eval e X.env) :: starEach es X.env := by rfl)
    (hpl : (backTo pos (starEach es X.env)).any (·.1) = false := by rfl) : PE X (.Call (.Name x p) (e :: es) [] pos) (tE (Cx.md X tb) B (eCall μ g)) := by
  refine ⟨fun pins s σ H Q I ⟨W, ρ, π, st, q⟩ => ?_⟩
  unfold eCall at q
  refine wpAny_Call_Name_kw (ld_glob I hg hm (PySem.W.callWith_K (h₀ := X.base) I.ok.mod.kin hk ?_ he hpl) hdb)
  have key : tA (Cx.md X tb) B g σ H (fun vs H1 => ∃ W1 ds π1, W1.tb = tb ∧ Same W1.F H1 ∧ PenOk W1 H1 π1 ∧ RvL (Cx.md X tb) W1 vs ds ∧ ds.length = ps.length ∧ Post (Cx.md X tb) (Rv (Cx.md X tb)) B W1 H1 σ Q (μ ds π1)) := by
    refine ⟨W, ρ, π, st, ?_⟩
    cases z : g ρ π with
    | bad => rw [z] at q; exact q
    | exn n π' => rw [z] at q; exact q
    | ok ds π1 =>
      rw [z] at q
      exact fun W1 H1 vs s1 pn1 sm1 r1 => ⟨W1, ds, π1, s1.tb.trans st.tbe, sm1, pn1, r1, hl _ _ _ _ z, Post.step (r := μ ds π1) q s1⟩
  refine thn (ha.run pos pins s σ H _ I key) fun us s1 ⟨vs, H1, I1, r, W1, ds, π1, tt1, sm1, pn1, r1, hl1, q1⟩ => ⟨I1.kIn, ?_⟩
  have hl2 : us.length = ps.length := by rw [← r.length, r1.length, hl1]
  have hb' : BindsTo s1 fd ⟨us, []⟩ (ps.zip us) := by
    have := hb s1 us I1.kIn (by rw [List.append_nil]; exact hl2)
    rwa [List.append_nil] at this
  refine wpAny_call (codeAny_mono (F.run X.A X.stack s1 H1 ⟨us, []⟩ us vs W1 ds π1 Q (WE B σ) hr gd I1.env0 hb' r r1 hl1 tt1 sm1 pn1 (q1.sig fun c d H h => h)) fun r s' hq => ?_)
  cases r with
  | error e => exact passAt tk σ pins H1 s1 e s' I1 hq
  | ok fl =>
    cases fl with
    | ret u => exact I1.after hq
    | next => exact False.elim hq
    | brk => exact False.elim hq
    | cont => exact False.elim hq
end
end DL

set_option maxRecDepth 100000
set_option maxHeartbeats 8000000
namespace DL
open PySem PySem.Spec PyProof.Rows L2

/-! ### subscripts, slices -/
def dIdx : Dv → Dv → Option Dv
  | .val (.list ds), .val (.int i) => (atI ds i).map Dv.val
  | .val (.tuple ds), .val (.int i) => (atI ds i).map Dv.val
  | .val (.str x), .val (.int i) => if x.length ≤ 16777216 then (atI x.cps.toList i).map fun c => .val (.str ⟨#[c]⟩) else none
  | .scr ns, .val (.int i) => (atI ns i).map fun n => .val (.int n)
  | _, _ => none
def cutD {α : Type} (xs : List α) (lo hi : Option Int) : List α := (xs.drop (HT.sIx xs.length 0 lo)).take (HT.sIx xs.length xs.length hi - HT.sIx xs.length 0 lo)
def dSl (lo hi : Option Int) : Dv → Option Dv
  | .val (.str x) => if x.length ≤ 16777216 then some (.val (.str (cutS x lo hi))) else none
  | .val (.list ds) => some (.val (.list (cutD ds lo hi)))
  | .scr ns => some (.val (.list (cutD (ns.map PyData.int) lo hi)))
  | .val (.tuple ds) => some (.val (.tuple (cutD ds lo hi)))
  | _ => none
theorem atI_rel {F : Hp} {xs : List V} {ds : List PyData} {i : Int} {d : PyData} (r : DqAll F xs ds) (h : atI ds i = some d) : ∃ v, atI xs i = some v ∧ Dq F v d := by
  unfold atI at h ⊢
  rw [r.length]
  cases q : ixN ds.length i with
  | none => rw [q] at h; cases h
  | some j => rw [q] at h; exact r.get' h
theorem atI_mem {α : Type} {xs : List α} {i : Int} {v : α} (h : atI xs i = some v) : v ∈ xs := by
  obtain ⟨j, _, h2, _⟩ := atI_get h
  exact List.mem_of_getElem? h2
section
variable {X : Cx} {tb : Tb} {B : WX}
theorem x_idx : IxR X (rD (Cx.md X tb) dIdx) := by
  rintro value slice pins s σ H x y v u Q I rx ry ⟨W, d, e, z, sm, rd, re, hz, q⟩ hs
  unfold dIdx at hz
  split at hz
  · rename_i ds i
    cases h : atI ds i with
    | none => rw [h] at hz; cases hz
    | some w =>
      rw [h] at hz; cases hz
      obtain ⟨a, xs, rfl, ea, za, ra⟩ := rv_lst rd
      cases rv_int re
      obtain ⟨k, h1, h2⟩ := atI_rel ra h
      exact ix_list value slice pins s σ H _ _ v u Q I rx ry ⟨a, xs, i, k, rfl, rfl, SqL.of (sm _ _ ea), h1, stay q sm (.val h2)⟩ hs
  · rename_i ds i
    cases h : atI ds i with
    | none => rw [h] at hz; cases hz
    | some w =>
      rw [h] at hz; cases hz
      obtain ⟨a, xs, rfl, ea, za, ra⟩ := rv_tup rd
      cases rv_int re
      obtain ⟨k, h1, h2⟩ := atI_rel ra h
      exact ix_tup value slice pins s σ H _ _ v u Q I rx ry ⟨a, xs, i, k, rfl, rfl, SqT_frz ea sm, h1, stay q sm (.val h2)⟩ hs
  · rename_i z i
    split at hz
    · rename_i hl
      cases h : atI z.cps.toList i with
      | none => rw [h] at hz; cases hz
      | some w =>
        rw [h] at hz; cases hz
        cases rv_str rd; cases rv_int re
        exact ix_str value slice pins s σ H _ _ v u Q I rx ry ⟨z, i, w, rfl, rfl, line_le.mp hl, h, stay q sm (.val (.str _))⟩ hs
    · cases hz
  · rename_i ns i
    cases h : atI ns i with
    | none => rw [h] at hz; cases hz
    | some w =>
      rw [h] at hz; cases hz
      cases rv_int re
      cases rd with
      | scr ea za =>
        have h1 : atI (ns.map V.int) i = some (V.int w) := by
          unfold atI at h ⊢
          rw [List.length_map]
          cases q : ixN ns.length i with
          | none => rw [q] at h; cases h
          | some j =>
            rw [q] at h
            have h : ns[j]? = some w := h
            show (ns.map V.int)[j]? = _
            rw [List.getElem?_map, h]; rfl
        exact ix_list value slice pins s σ H _ _ v u Q I rx ry ⟨_, _, i, .int w, rfl, rfl, sm.seq ea, h1, stay q sm (.val (.int w))⟩ hs
  · cases hz
theorem e_idx {a b : Expr} {pos : Pos} {f g : SE Dv} (ha : PE X a (tE (Cx.md X tb) B f)) (hb : PE X b (tE (Cx.md X tb) B g)) (hs : PlainIx b := by exact fun _ _ => rfl) : PE X (.Subscript a b pos) (tE (Cx.md X tb) B (lift2 dIdx f g)) :=
  PE.weak (pe_ix x_idx ha hb hs) bin_imp
/-- a held list's item -/
def eIdxO (i : Nat) (f : SE Dv) : SE Dv := fun ρ π => match ρ[i]? with
  | some (.own ds) => (f ρ π).bind fun e π1 => match dIdx (.val (.list ds)) e with
    | some z => .ok z π1
    | none => .bad
  | _ => .bad
theorem own_at {M : Md} {W : Wd} {H : Hp} {ρ : List Sv} {π : Pn} {σ : L2.St} {i : Nat} {ds : List PyData} (st : StE M W H ρ π σ) (e : ρ[i]? = some (.own ds)) : ∃ a xs, σ[i]? = some (some (.ref a)) ∧ W.F a = none ∧ W.pa ≠ some a ∧ H a = some (.lst xs) ∧ xs.length ≤ sizeLine ∧ DqAll W.F xs ds := by
  obtain ⟨o, h1, h2⟩ := st.sl i _ e
  cases h2 with
  | own a b c d e => exact ⟨_, _, h1, a, b, c, d, e⟩
theorem e_idxO (i : Nat) {x : Str} {b : Expr} {p pos : Pos} {f : SE Dv} (hb : PE X b (tE (Cx.md X tb) B f)) (hN : X.N[i]? = some x := by rfl) (hv : Vis X.env.scope x := by first | exact Or.inl rfl | exact Or.inr (Or.inl rfl) | exact Or.inr (Or.inr rfl)) (hs : PlainIx b := by exact fun _ _ => rfl)
    (hd : (x == ("__debug__" : Str)) = false := by decide) (hcd : (x == ("__classdict__" : Str)) = false := by decide) : PE X (.Subscript (.Name x p) b pos) (tE (Cx.md X tb) B (eIdxO i f)) := by
  refine PE.weak (pe_ix ix_list (pe_var hN hv hd hcd) hb hs) ?_
  rintro σ H Q ⟨W, ρ, π, st, p⟩
  unfold eIdxO at p
  split at p
  · rename_i ds e
    obtain ⟨a, xs, h1, h2, h3, h4, h5, h6⟩ := own_at st e
    refine ⟨_, h1, W, ρ, π, st, p.bind fun d π1 W1 H1 v s1 pn1 sm1 r1 p1 => ?_⟩
    cases q : dIdx (.val (.list ds)) d with
    | none => simp only [q] at p1; exact p1.elim
    | some z =>
      simp only [q] at p1
      unfold dIdx at q
      split at q
      · rename_i ds' j heq
        cases heq
        cases h : atI ds j with
        | none => rw [h] at q; cases q
        | some w =>
          rw [h] at q; cases q
          cases rv_int r1
          obtain ⟨k, g1, g2⟩ := atI_rel (h6.mono s1.sub) h
          exact ⟨a, xs, j, k, rfl, rfl, SqL.of (s1.keep _ _ h4 h3 .lst), g1, p1.now pn1 sm1 (.val g2)⟩
      · rename_i heq; cases heq
      · rename_i heq; cases heq
      · rename_i heq; cases heq
      · cases q
  · exact p.elim

/-! ### slices -/
def rSlD (M : Md) : V → Option Int → Option Int → Hp → VK → Prop := fun x lo hi H Q => ∃ W d z, Same W.F H ∧ Rv M W x d ∧ dSl lo hi d = some z ∧ (∀ v H' W', Step W H W' H' → (∀ π, PenOk W H π → PenOk W' H' π) → Same W'.F H' → Rv M W' v z → Q v H')
theorem cut_dq {F : Hp} {xs : List V} {ds : List PyData} (r : DqAll F xs ds) (lo hi : Option Int) : DqAll F (cutV xs lo hi) (cutD ds lo hi) := by
  unfold cutV cutD
  rw [r.length]
  exact (r.drop _).take _
theorem cut_all {xs : List V} {ds : List PyData} {lo hi : Option Int} (hl : xs.length = ds.length) (h : HT.sIx xs.length 0 lo = 0 ∧ HT.sIx xs.length xs.length hi = xs.length) : cutD ds lo hi = ds := by
  unfold cutD
  rw [← hl, h.1, h.2, List.drop_zero, Nat.sub_zero, hl, List.take_length]
theorem sl_d : SlR X (rSlD (Cx.md X tb)) := by
  rintro pins s σ H x v vl vu lo hi sl Q I rx hs pl pu ⟨W, d, z, sm, rd, hz, q⟩
  unfold dSl at hz
  split at hz
  · split at hz
    · rename_i hl
      cases hz; cases rv_str rd
      exact sl_str pins s σ H _ v vl vu lo hi sl Q I rx hs pl pu ⟨_, rfl, line_le.mp hl, stay q sm (.val (.str _))⟩
    · cases hz
  · cases hz
    obtain ⟨a, xs, rfl, ea, za, ra⟩ := rv_lst rd
    refine sl_list pins s σ H _ v vl vu lo hi sl Q I rx hs pl pu ⟨a, xs, rfl, SqL.of (sm _ _ ea), fun p n => grow q sm n ?_⟩
    exact .val (.lst upd_same (Nat.le_trans (cutV_length _ _ _) za) ((cut_dq ra lo hi).mono (grows (sm.free n))))
  · cases hz
    cases rd with
    | scr ea za =>
      refine sl_list pins s σ H _ v vl vu lo hi sl Q I rx hs pl pu ⟨_, _, rfl, sm.seq ea, fun p n => grow q sm n ?_⟩
      refine .val (.lst upd_same (Nat.le_trans (cutV_length _ _ _) ?_) (cut_dq (DqAll.ints _) lo hi))
      rw [List.length_map]
      exact Nat.le_trans za (by rw [sizeLine_eq]; decide)
  · cases hz
    obtain ⟨a, xs, rfl, ea, za, ra⟩ := rv_tup rd
    refine sl_tupZ pins s σ H _ v vl vu lo hi sl Q I rx hs pl pu ⟨a, xs, rfl, SqT_frz ea sm, fun h => ?_, fun _ p o n po => grow q sm n ?_⟩
    · have e : cutD _ lo hi = _ := cut_all ra.length h
      rw [e] at q
      exact stay q sm (.val (.tupE ea za ra))
    · exact .val (.tup upd_same po (Nat.le_trans (cutV_length _ _ _) za) ((cut_dq ra lo hi).mono (grows (sm.free n))))
  · cases hz
def tO (M : Md) (B : WX) (f : SE (Option Int)) : TO := fun σ H Q => ∃ W ρ π, StE M W H ρ π σ ∧ Post M (fun _ b b' => b = b') B W H σ Q (f ρ π)
def oNone : SE (Option Int) := fun _ π => .ok none π
def oSome (f : SE Dv) : SE (Option Int) := fun ρ π => (f ρ π).bind fun d π1 => match d with
  | .val (.int i) => .ok (some i) π1
  | _ => .bad
theorem PO.weak {X : Cx} {e : Option Expr} {t t' : TO} (h : PO X e t) (w : ∀ σ H Q, t' σ H Q → t σ H Q) : PO X e t' := ⟨fun pins s σ H Q I q => h.run pins s σ H Q I (w σ H Q q)⟩
theorem o_none {M : Md} : PO X none (tO M B oNone) := PO.weak po_none fun σ H Q ⟨W, ρ, π, st, p⟩ => p.now st.pen st.same rfl
theorem o_some {e : Expr} {f : SE Dv} (h : PE X e (tE (Cx.md X tb) B f)) : PO X (some e) (tO (Cx.md X tb) B (oSome f)) := by
  refine PO.weak (po_some h) ?_
  rintro σ H Q ⟨W, ρ, π, st, p⟩
  refine ⟨W, ρ, π, st, p.bind fun d π1 W1 H1 v s1 pn1 sm1 r1 p1 => ?_⟩
  cases r1 with
  | pen _ => exact p1.elim
  | scr _ _ => exact p1.elim
  | err _ _ => exact p1.elim
  | dct _ _ _ => exact p1.elim
  | fn _ => exact p1.elim
  | val r => cases r with
    | int i => exact ⟨i, rfl, p1.now pn1 sm1 rfl⟩
    | non => exact p1.elim
    | bl _ => exact p1.elim
    | str _ => exact p1.elim
    | lst _ _ _ => exact p1.elim
    | tup _ _ _ => exact p1.elim
def eSlice (f : SE Dv) (l u : SE (Option Int)) : SE Dv := fun ρ π => (f ρ π).bind fun d π1 => (l ρ π1).bind fun lo π2 => (u ρ π2).bind fun hi π3 => match dSl lo hi d with
  | some z => .ok z π3
  | none => .bad
theorem e_slice {e : Expr} {lo hi : Option Expr} {p2 pos : Pos} {f : SE Dv} {l u : SE (Option Int)} (he : PE X e (tE (Cx.md X tb) B f)) (hl : PO X lo (tO (Cx.md X tb) B l)) (hu : PO X hi (tO (Cx.md X tb) B u)) : PE X (.Subscript e (.Slice lo hi none p2) pos) (tE (Cx.md X tb) B (eSlice f l u)) := by
  refine PE.weak (pe_slice (sl_d (tb := tb)) he hl hu) ?_
  rintro σ H Q ⟨W, ρ, π, st, p⟩
  refine ⟨W, ρ, π, st, p.bind fun d π1 W1 H1 v s1 pn1 sm1 r1 p1 => ⟨W1, ρ, π1, st.step s1 pn1 sm1, p1.bind fun a π2 W2 H2 a' s2 pn2 sm2 r2 p2 => ⟨W2, ρ, π2, (st.step s1 pn1 sm1).step s2 pn2 sm2, p2.bind fun b π3 W3 H3 b' s3 pn3 sm3 r3 p3 => ?_⟩⟩⟩
  subst r2 r3
  cases q : dSl a' b' d with
  | none => simp only [q] at p3; exact p3.elim
  | some z =>
    simp only [q] at p3
    exact ⟨W3, d, z, sm3, (r1.step s2).step s3, q, fun v' H' W' s4 pn4 sm4 r4 => p3 W' H' v' s4 (pn4 π3 pn3) sm4 r4⟩

/-! ### calls of built-ins -/
def rC (M : Md) (op : List Dv → Option Dv) : List V → Hp → VK → Prop := fun xs H Q => ∃ W ds z, Same W.F H ∧ RvL M W xs ds ∧ op ds = some z ∧ (∀ v H' W', Step W H W' H' → (∀ π, PenOk W H π → PenOk W' H' π) → Same W'.F H' → Rv M W' v z → Q v H')
def liftC (op : List Dv → Option Dv) (g : SE (List Dv)) : SE Dv := fun ρ π => (g ρ π).bind fun ds π1 => match op ds with
  | some z => .ok z π1
  | none => .bad
theorem c_imp {M : Md} {op : List Dv → Option Dv} {g : SE (List Dv)} : ∀ σ H Q, tE M B (liftC op g) σ H Q → tCB (rC M op) (tA M B g) σ H Q := by
  rintro σ H Q ⟨W, ρ, π, st, p⟩
  refine ⟨W, ρ, π, st, p.bind fun ds π1 W1 H1 vs s1 pn1 sm1 r1 p1 => ?_⟩
  cases q : op ds with
  | none => simp only [q] at p1; exact p1.elim
  | some z =>
    simp only [q] at p1
    exact ⟨W1, ds, z, sm1, r1, q, fun v' H' W' s4 pn4 sm4 r4 => p1 W' H' v' s4 (pn4 π1 pn1) sm4 r4⟩
theorem e_callB {x : Str} {p pos : Pos} {e : Expr} {es : List Expr} {id : String} {op : List Dv → Option Dv} {g : SE (List Dv)} (hc : CallR X (.builtin id) (rC (Cx.md X tb) op)) (hm : X.mg x = none) (hv : bootBuiltins x = some (.builtin id)) (ha : PA X (e :: es) (tA (Cx.md X tb) B g)) (hg : Gl X x := by rfl) (hn : x ≠ "__name__" := by decide)
    (hdb : (x == ("__debug__" : Str)) = false := by decide) (he : starEach (e :: es) X.env = (false, eval e X.env) :: starEach es X.env := by rfl) (hpl : (backTo pos (starEach es X.env)).any (·.1) = false := by rfl) : PE X (.Call (.Name x p) (e :: es) [] pos) (tE (Cx.md X tb) B (liftC op g)) :=
  PE.weak (pe_callB hc hg hm hv ha hn hdb he hpl) c_imp
theorem e_callT {x : Str} {p pos : Pos} {e : Expr} {es : List Expr} {T : String} {op : List Dv → Option Dv} {g : SE (List Dv)} (hc : CallR X (.type T) (rC (Cx.md X tb) op)) (hm : X.mg x = none) (hv : bootBuiltins x = some (.type T)) (ha : PA X (e :: es) (tA (Cx.md X tb) B g)) (hg : Gl X x := by rfl) (hn : x ≠ "__name__" := by decide)
    (hdb : (x == ("__debug__" : Str)) = false := by decide) (he : starEach (e :: es) X.env = (false, eval e X.env) :: starEach es X.env := by rfl) (hpl : (backTo pos (starEach es X.env)).any (·.1) = false := by rfl) : PE X (.Call (.Name x p) (e :: es) [] pos) (tE (Cx.md X tb) B (liftC op g)) :=
  PE.weak (pe_callTy hc hg hm hv ha hn hdb he hpl) c_imp
def bLen : List Dv → Option Dv
  | [.val (.str x)] => if x.length ≤ 16777216 then some (.val (.int x.length)) else none
  | [.val (.list ds)] => some (.val (.int ds.length))
  | [.val (.tuple ds)] => some (.val (.int ds.length))
  | [.scr ns] => some (.val (.int ns.length))
  | _ => none
theorem rvl1 {M : Md} {W : Wd} {vs : List V} {d : Dv} (r : RvL M W vs [d]) : ∃ v, vs = [v] ∧ Rv M W v d := by
  cases r with | cons r t => cases t; exact ⟨_, rfl, r⟩
theorem rvl2 {M : Md} {W : Wd} {vs : List V} {d e : Dv} (r : RvL M W vs [d, e]) : ∃ v w, vs = [v, w] ∧ Rv M W v d ∧ Rv M W w e := by
  cases r with | cons r t => cases t with | cons r' t => cases t; exact ⟨_, _, rfl, r, r'⟩
theorem k_len : CallR X (.builtin "len") (rC (Cx.md X tb) bLen) := by
  rintro pins s σ H xs us Q I r ⟨W, ds, z, sm, rd, hz, q⟩
  unfold bLen at hz
  split at hz
  · obtain ⟨v, rfl, rv⟩ := rvl1 rd
    split at hz
    · rename_i hl
      cases hz; cases rv_str rv
      exact call_len pins s σ H _ us Q I r ⟨_, _, rfl, ⟨line_le.mp hl, rfl⟩, stay q sm (.val (.int _))⟩
    · cases hz
  · obtain ⟨v, rfl, rv⟩ := rvl1 rd
    cases hz
    obtain ⟨a, ys, rfl, ea, za, ra⟩ := rv_lst rv
    exact call_len pins s σ H _ us Q I r ⟨_, _, rfl, .inl ⟨ys, SqL.of (sm _ _ ea), rfl⟩, by rw [ra.length]; exact stay q sm (.val (.int _))⟩
  · obtain ⟨v, rfl, rv⟩ := rvl1 rd
    cases hz
    obtain ⟨a, ys, rfl, ea, za, ra⟩ := rv_tup rv
    exact call_len pins s σ H _ us Q I r ⟨_, _, rfl, .inr ⟨ys, SqT_frz ea sm, rfl⟩, by rw [ra.length]; exact stay q sm (.val (.int _))⟩
  · obtain ⟨v, rfl, rv⟩ := rvl1 rd
    cases hz
    cases rv with
    | scr ea za => exact call_len pins s σ H _ us Q I r ⟨_, _, rfl, .inl ⟨_, sm.seq ea, rfl⟩, by rw [List.length_map]; exact stay q sm (.val (.int _))⟩
  · cases hz
def eLenO (i : Nat) : SE Dv := fun ρ π => match ρ[i]? with
  | some (.own ds) => .ok (.val (.int ds.length)) π
  | _ => .bad
theorem e_lenO (i : Nat) {x : Str} {p p2 pos : Pos} (hm : X.mg "len" = none) (hg : Gl X "len" := by rfl) (hN : X.N[i]? = some x := by rfl) (hv : Vis X.env.scope x := by first | exact Or.inl rfl | exact Or.inr (Or.inl rfl) | exact Or.inr (Or.inr rfl)) (he : starEach [.Name x p2] X.env = (false, eval (.Name x p2) X.env) :: starEach [] X.env := by rfl)
    (hpl : (backTo pos (starEach [] X.env)).any (·.1) = false := by rfl) (hd : (x == ("__debug__" : Str)) = false := by decide) (hcd : (x == ("__classdict__" : Str)) = false := by decide) : PE X (.Call (.Name "len" p) [.Name x p2] [] pos) (tE (Cx.md X tb) B (eLenO i)) := by
  refine PE.weak (pe_callB call_len hg hm PySem.boot_len (pa_cons (pe_var hN hv hd hcd) pa_nil he) (by decide) (by decide) he hpl) ?_
  rintro σ H Q ⟨W, ρ, π, st, p⟩
  unfold eLenO at p
  split at p
  · rename_i ds e
    obtain ⟨a, xs, h1, h2, h3, h4, h5, h6⟩ := own_at st e
    exact ⟨_, h1, _, _, rfl, .inl ⟨xs, SqL.of h4, rfl⟩, by rw [h6.length]; exact p.now st.pen st.same (.val (.int _))⟩
  · exact p.elim
def bRepr : List Dv → Option Dv
  | [.val d] => if d.showable = true ∧ d.hasDict = false ∧ d.depth ≤ 40 ∧ d.shown.length ≤ 16777216 then some (.val (.str d.shown)) else none
  | _ => none
theorem k_repr (hg : X.A.guards = some []) (hu : X.A.units + 64 < cLine) : CallR X (.builtin "repr") (rC (Cx.md X tb) bRepr) := by
  rintro pins s σ H xs us Q I r ⟨W, ds, z, sm, rd, hz, q⟩
  unfold bRepr at hz
  split at hz
  · rename_i d
    split at hz
    · rename_i hc
      obtain ⟨h1, h2, h3, h4⟩ := hc
      obtain ⟨v, rfl, rv⟩ := rvl1 rd
      obtain ⟨u, rfl, ru⟩ := vals1 r
      cases hz
      have fin : ∀ t h' tk, (∀ b o, s.heap.get? b = some o → h'.get? b = some o) → EP X pins σ Q (.str d.shown t) { s with heap := h', toks := tk } := fun t h' tk hk => ⟨.str d.shown, H, I.kept hk, ⟨t, rfl⟩, stay q sm (.val (.str _))⟩
      have rd := rv_data rv
      have line := line_le.mp h4
      cases rd with
      | non => cases ru; exact PySem.P.repr_of_none (fin _ _ _ fun _ _ e => e)
      | bl b => cases ru; exact PySem.P.repr_of_bool (fin _ _ _ fun _ _ e => e)
      | int i =>
        obtain ⟨t, rfl⟩ := ru
        exact PySem.P.repr_of_int (of_decide_eq_true h1) (fin _ _ _ fun _ _ e => e)
      | str x =>
        obtain ⟨t, rfl⟩ := ru
        exact PySem.P.repr_of_str (fin _ _ _ fun _ _ e => e) line
      | lst ea za ra =>
        cases ru
        obtain ⟨as, hr⟩ := Dp.reads I _ _ _ ((Dq.lst ea za ra).dp (K := X.K) sm) rfl
        exact repr_of_reads' hr h1 (PyData.noDict_hsm h2) hg (by omega) (fun _ _ e => e) (fun h' t tk hk => fin t h' tk hk) line
      | tup ea po za ra =>
        cases ru
        obtain ⟨as, hr⟩ := Dp.reads I _ _ _ ((Dq.tup ea po za ra).dp (K := X.K) sm) rfl
        exact repr_of_reads' hr h1 (PyData.noDict_hsm h2) hg (by omega) (fun _ _ e => e) (fun h' t tk hk => fin t h' tk hk) line
    · cases hz
  · cases hz
def bMax : List Dv → Option Dv
  | [.val (.int i), .val (.int j)] => some (.val (.int (if j > i then j else i)))
  | _ => none
theorem k_max (hc : X.calm = true) : CallR X (.builtin "max") (rC (Cx.md X tb) bMax) := by
  rintro pins s σ H xs us Q I r ⟨W, ds, z, sm, rd, hz, q⟩
  unfold bMax at hz
  split at hz
  · obtain ⟨v, w, rfl, r1, r2⟩ := rvl2 rd
    cases hz; cases rv_int r1; cases rv_int r2
    exact call_max2 hc pins s σ H _ us Q I r ⟨_, _, rfl, stay q sm (.val (.int _))⟩
  · cases hz
def bMin : List Dv → Option Dv
  | [.val (.int i), .val (.int j)] => some (.val (.int (if j < i then j else i)))
  | _ => none
theorem k_min (hc : X.calm = true) : CallR X (.builtin "min") (rC (Cx.md X tb) bMin) := by
  rintro pins s σ H xs us Q I r ⟨W, ds, z, sm, rd, hz, q⟩
  unfold bMin at hz
  split at hz
  · obtain ⟨v, w, rfl, r1, r2⟩ := rvl2 rd
    cases hz; cases rv_int r1; cases rv_int r2
    exact call_min2 hc pins s σ H _ us Q I r ⟨_, _, rfl, stay q sm (.val (.int _))⟩
  · cases hz
def bInt : List Dv → Option Dv
  | [.val (.int i)] => some (.val (.int i))
  | [.val (.bool b)] => some (.val (.int (if b then 1 else 0)))
  | _ => none
theorem k_int : CallR X (.type "int") (rC (Cx.md X tb) bInt) := by
  rintro pins s σ H xs us Q I r ⟨W, ds, z, sm, rd, hz, q⟩
  unfold bInt at hz
  split at hz
  · obtain ⟨v, rfl, r1⟩ := rvl1 rd
    cases hz; cases rv_int r1
    exact call_int1 pins s σ H _ us Q I r (.inl ⟨_, rfl, stay q sm (.val (.int _))⟩)
  · obtain ⟨v, rfl, r1⟩ := rvl1 rd
    cases hz; cases rv_bl r1
    exact call_int1 pins s σ H _ us Q I r (.inr ⟨_, rfl, stay q sm (.val (.int _))⟩)
  · cases hz
def bAbs : List Dv → Option Dv
  | [.val (.int i)] => some (.val (.int (if i < 0 then -i else i)))
  | _ => none
theorem k_abs : CallR X (.builtin "abs") (rC (Cx.md X tb) bAbs) := by
  rintro pins s σ H xs us Q I r ⟨W, ds, z, sm, rd, hz, q⟩
  unfold bAbs at hz
  split at hz
  · obtain ⟨v, rfl, r1⟩ := rvl1 rd
    cases hz; cases rv_int r1
    exact call_abs pins s σ H _ us Q I r ⟨_, rfl, stay q sm (.val (.int _))⟩
  · cases hz
/-- list(x), a new list -/
def lList (f : SE Dv) : SE (List PyData) := fun ρ π => (f ρ π).bind fun d π1 => match d with
  | .val (.list ds) => .ok ds π1
  | .val (.tuple ds) => .ok ds π1
  | .scr ns => .ok (ns.map PyData.int) π1
  | _ => .bad
theorem ownL {M : Md} {W W1 : Wd} {H H1 : Hp} {σ : L2.St} {Q : VK} {ds : List PyData} {π : Pn} {xs : List V} {l : Addr} (p : PostL M B W H σ Q (.ok ds π)) (s : Step W H W1 H1) (pn : PenOk W1 H1 π) (sm : Same W1.F H1) (n : H1 l = none) (z : xs.length ≤ sizeLine) (r : DqAll W1.F xs ds) : Q (.ref l) (upd H1 l (.lst xs)) := by
  obtain ⟨s2, pn2, sm2⟩ := freshOwn (o := .lst xs) sm pn n
  exact p W1 _ l xs (s.trans s2) pn2 sm2 (s.there l n) (sm.free n) (pn.npa n) upd_same z r
theorem l_list {p pos : Pos} {e : Expr} {f : SE Dv} (hm : X.mg "list" = none) (he : PE X e (tE (Cx.md X tb) B f)) (hg : Gl X "list" := by rfl) (hs : starEach [e] X.env = (false, eval e X.env) :: starEach [] X.env := by rfl) (hpl : (backTo pos (starEach [] X.env)).any (·.1) = false := by rfl) :
    PE X (.Call (.Name "list" p) [e] [] pos) (tL (Cx.md X tb) B (lList f)) := by
  refine PE.weak (pe_callTy call_list_of hg hm (by decide +kernel) (pa_cons he pa_nil hs) (by decide) (by decide) hs hpl) ?_
  rintro σ H Q ⟨W, ρ, π, st, p⟩
  refine ⟨W, ρ, π, st, ?_⟩
  unfold lList at p
  cases q : f ρ π with
  | bad => rw [q] at p; exact p
  | exn n π' => rw [q] at p; exact p
  | ok d π1 =>
    rw [q] at p
    intro W1 H1 v s1 pn1 sm1 r1
    show ∃ p ys, [v] = [V.ref p] ∧ _
    cases r1 with
    | pen _ => exact p.elim
    | err _ _ => exact p.elim
    | dct _ _ _ => exact p.elim
    | fn _ => exact p.elim
    | scr ea za => exact ⟨_, _, rfl, .inl (sm1.seq ea), fun l nl => ownL p s1 pn1 sm1 nl (by rw [List.length_map]; exact Nat.le_trans za (by rw [sizeLine_eq]; decide)) (DqAll.ints _)⟩
    | val r => cases r with
      | lst ea za ra => exact ⟨_, _, rfl, .inl (SqL.of (sm1 _ _ ea)), fun l nl => ownL p s1 pn1 sm1 nl za ra⟩
      | tup ea po za ra => exact ⟨_, _, rfl, .inr (SqT_frz ⟨_, ea, po⟩ sm1), fun l nl => ownL p s1 pn1 sm1 nl za ra⟩
      | non => exact p.elim
      | bl _ => exact p.elim
      | int _ => exact p.elim
      | str _ => exact p.elim
end
end DL

set_option maxRecDepth 100000
set_option maxHeartbeats 8000000
namespace DL
open PySem PySem.Spec PyProof.Rows L2
section
variable {X : Cx} {tb : Tb} {B : WX} {W0 : Wd} {H0 : Hp}

/-! ### methods of built-in types -/
def rM (M : Md) (op : Dv → List Dv → Option Dv) : V → List V → Hp → VK → Prop := fun x xs H Q => ∃ W d ds z, Same W.F H ∧ Rv M W x d ∧ RvL M W xs ds ∧ op d ds = some z ∧ (∀ v H' W', Step W H W' H' → (∀ π, PenOk W H π → PenOk W' H' π) → Same W'.F H' → Rv M W' v z → Q v H')
/-- of a text -/
def liftMS (op : Dv → List Dv → Option Dv) (f : SE Dv) (g : SE (List Dv)) : SE Dv := fun ρ π => (f ρ π).bind fun d π1 => match d with
  | .val (.str x) => (g ρ π1).bind fun ds π2 => (match op (.val (.str x)) ds with
    | some z => .ok z π2
    | none => .bad)
  | _ => .bad
theorem e_methS {o e : Expr} {es : List Expr} {name : Str} {apos cpos : Pos} {id : String} {op : Dv → List Dv → Option Dv} {f : SE Dv} {g : SE (List Dv)} (pa : PlainAttrs "str") (slot : Slot "str" name id) (hty : typeOf (.builtin id) = pure (.type "method_descriptor")) (hm : MtR X id (rM (Cx.md X tb) op)) (ho : PE X o (tE (Cx.md X tb) B f)) (ha : PA X (e :: es) (tA (Cx.md X tb) B g))
    (hbase : attributeBase o name X.env (eval o X.env) = eval o X.env := by rfl)
    (hfew : ((backTo cpos (starEach (e :: es) X.env)).all (fun x => !x.1) && (backToKw cpos (keywordEach [] X.env)).all (fun x => x.1.isSome) && decide ((e :: es).length + ([] : List Keyword).length + (if ([] : List Keyword).isEmpty then 0 else 1) < 30)) = true := by rfl)
    (hline : (apos.endLine == cpos.line) = true := by rfl) (hs : starEach (e :: es) X.env = (false, eval e X.env) :: starEach es X.env := by rfl) (hplain : (backTo cpos (starEach es X.env)).any (·.1) = false := by rfl) :
    PE X (.Call (.Attribute o name apos) (e :: es) [] cpos) (tE (Cx.md X tb) B (liftMS op f g)) := by
  refine PE.weak (pe_bm pa slot hty hm ho ha hbase hfew hline hs hplain) ?_
  rintro σ H Q ⟨W, ρ, π, st, p⟩
  refine ⟨W, ρ, π, st, p.bind fun d π1 W1 H1 v s1 pn1 sm1 r1 p1 => ?_⟩
  cases r1 with
  | pen _ => exact p1.elim
  | scr _ _ => exact p1.elim
  | err _ _ => exact p1.elim
  | dct _ _ _ => exact p1.elim
  | fn _ => exact p1.elim
  | val r => cases r with
    | non => exact p1.elim
    | bl _ => exact p1.elim
    | int _ => exact p1.elim
    | lst _ _ _ => exact p1.elim
    | tup _ _ _ => exact p1.elim
    | str x =>
      refine ⟨rfl, W1, ρ, π1, st.step s1 pn1 sm1, p1.bind fun ds π2 W2 H2 vs s2 pn2 sm2 r2 p2 => ?_⟩
      cases q : op (.val (.str x)) ds with
      | none => simp only [q] at p2; exact p2.elim
      | some z =>
        simp only [q] at p2
        exact ⟨W2, _, ds, z, sm2, .val (.str x), r2, q, fun v' H' W' s4 pn4 sm4 r4 => p2 W' H' v' s4 (pn4 π2 pn2) sm4 r4⟩
def mCount : Dv → List Dv → Option Dv
  | .val (.str x), [.val (.str y)] => some (.val (.int (Txt.count x y)))
  | _, _ => none
theorem m_count : MtR X "str.count" (rM (Cx.md X tb) mCount) := by
  rintro pins s σ H x xs v us Q I rx rs ⟨W, d, ds, z, sm, rd, rds, hz, q⟩
  unfold mCount at hz
  split at hz
  · obtain ⟨w, rfl, r1⟩ := rvl1 rds
    cases hz; cases rv_str rd; cases rv_str r1
    exact mt_count pins s σ H _ _ v us Q I rx rs ⟨_, _, rfl, rfl, stay q sm (.val (.int _))⟩
  · cases hz
def mIndex : Dv → List Dv → Option Dv
  | .val (.str x), [.val (.str y)] => (Builtin.Str.occurrences x y 0 x.length 1).head?.map fun i => .val (.int (i : Nat))
  | _, _ => none
theorem m_index : MtR X "str.index" (rM (Cx.md X tb) mIndex) := by
  rintro pins s σ H x xs v us Q I rx rs ⟨W, d, ds, z, sm, rd, rds, hz, q⟩
  unfold mIndex at hz
  split at hz
  · rename_i a b
    obtain ⟨w, rfl, r1⟩ := rvl1 rds
    cases rv_str rd; cases rv_str r1
    cases h : Builtin.Str.occurrences a b 0 a.length 1 with
    | nil => rw [h] at hz; cases hz
    | cons i rest =>
      rw [h] at hz; cases hz
      exact mt_sindex pins s σ H _ _ v us Q I rx rs ⟨a, b, i, rest, rfl, rfl, h, stay q sm (.val (.int _))⟩
  · cases hz
/-- all of them texts -/
def strsOf : List PyData → Option (List Str)
  | [] => some []
  | .str x :: r => (strsOf r).map (x :: ·)
  | _ :: _ => none
theorem strs_v {F : Hp} : ∀ {vs : List V} {ds : List PyData} {xs : List Str}, DqAll F vs ds → strsOf ds = some xs → vs = xs.map V.str
  | _, _, xs, .nil, h => by cases h; rfl
  | _, _, xs, .cons r t, h => by
    cases r with
    | str x =>
      unfold strsOf at h
      cases q : strsOf _ with
      | none => rw [q] at h; cases h
      | some l => rw [q] at h; cases h; rw [strs_v t q]; rfl
    | non => cases h
    | bl _ => cases h
    | int _ => cases h
    | lst _ _ _ => cases h
    | tup _ _ _ => cases h
def mJoin : Dv → List Dv → Option Dv
  | .val (.str a), [.val (.list ds)] => (strsOf ds).bind fun ys => if (ys.map (·.length)).sum + ys.length * a.length ≤ 16777216 then some (.val (.str (Txt.join a ys))) else none
  | _, _ => none
theorem m_join : MtR X "str.join" (rM (Cx.md X tb) mJoin) := by
  rintro pins s σ H x xs v us Q I rx rs ⟨W, d, ds, z, sm, rd, rds, hz, q⟩
  unfold mJoin at hz
  split at hz
  · rename_i a ds
    obtain ⟨w, rfl, r1⟩ := rvl1 rds
    cases rv_str rd
    cases h : strsOf ds with
    | none => rw [h] at hz; cases hz
    | some ys =>
      rw [h] at hz
      have hz : (if (ys.map (·.length)).sum + ys.length * a.length ≤ 16777216 then some (Dv.val (.str (Txt.join a ys))) else none) = some z := hz
      split at hz
      · rename_i hl
        cases hz
        obtain ⟨p, zs, rfl, ea, za, ra⟩ := rv_lst r1
        have e := strs_v ra h
        subst e
        exact mt_join pins s σ H _ _ v us Q I rx rs ⟨a, p, ys, rfl, rfl, .inl (SqL.of (sm _ _ ea)), hl, stay q sm (.val (.str _))⟩
      · cases hz
  · cases hz
def mStarts : Dv → List Dv → Option Dv
  | .val (.str x), [.val (.str y)] => some (.val (.bool (Txt.startswith x y)))
  | _, _ => none
theorem m_starts : MtR X "str.startswith" (rM (Cx.md X tb) mStarts) := by
  rintro pins s σ H x xs v us Q I rx rs ⟨W, d, ds, z, sm, rd, rds, hz, q⟩
  unfold mStarts at hz
  split at hz
  · obtain ⟨w, rfl, r1⟩ := rvl1 rds
    cases hz; cases rv_str rd; cases rv_str r1
    exact mt_startswith pins s σ H _ _ v us Q I rx rs ⟨_, _, rfl, rfl, stay q sm (.val (.bl _))⟩
  · cases hz
def mEnds : Dv → List Dv → Option Dv
  | .val (.str x), [.val (.str y)] => some (.val (.bool (Txt.endswith x y)))
  | _, _ => none
theorem m_ends : MtR X "str.endswith" (rM (Cx.md X tb) mEnds) := by
  rintro pins s σ H x xs v us Q I rx rs ⟨W, d, ds, z, sm, rd, rds, hz, q⟩
  unfold mEnds at hz
  split at hz
  · obtain ⟨w, rfl, r1⟩ := rvl1 rds
    cases hz; cases rv_str rd; cases rv_str r1
    exact mt_endswith pins s σ H _ _ v us Q I rx rs ⟨_, _, rfl, rfl, stay q sm (.val (.bl _))⟩
  · cases hz
/-- x.m() of a text -/
def liftMS0 (op : Dv → Option Dv) (f : SE Dv) : SE Dv := fun ρ π => (f ρ π).bind fun d π1 => match d with
  | .val (.str x) => (match op (.val (.str x)) with
    | some z => .ok z π1
    | none => .bad)
  | _ => .bad
def mLower : Dv → Option Dv
  | .val (.str x) => if x.length ≤ 5592405 then some (.val (.str (Txt.lower x))) else none
  | _ => none
theorem e_lower {o : Expr} {apos cpos : Pos} {f : SE Dv} (ho : PE X o (tE (Cx.md X tb) B f)) (hbase : attributeBase o "lower" X.env (eval o X.env) = eval o X.env := by rfl) (hline : (apos.endLine == cpos.line) = true := by rfl) : PE X (.Call (.Attribute o "lower" apos) [] [] cpos) (tE (Cx.md X tb) B (liftMS0 mLower f)) := by
  refine PE.weak (pe_bm0 PySem.F.plainAttrs_str PySem.F.slot_str_lower PySem.F.type_str_lower mt_lower ho hbase hline) ?_
  rintro σ H Q ⟨W, ρ, π, st, p⟩
  refine ⟨W, ρ, π, st, p.bind fun d π1 W1 H1 v s1 pn1 sm1 r1 p1 => ?_⟩
  cases r1 with
  | pen _ => exact p1.elim
  | scr _ _ => exact p1.elim
  | err _ _ => exact p1.elim
  | dct _ _ _ => exact p1.elim
  | fn _ => exact p1.elim
  | val r => cases r with
    | non => exact p1.elim
    | bl _ => exact p1.elim
    | int _ => exact p1.elim
    | lst _ _ _ => exact p1.elim
    | tup _ _ _ => exact p1.elim
    | str x =>
      refine ⟨rfl, x, rfl, rfl, ?_⟩
      by_cases h : x.length ≤ 5592405
      · simp only [mLower, if_pos h] at p1
        exact ⟨h, p1.now pn1 sm1 (.val (.str _))⟩
      · simp only [mLower, if_neg h] at p1; exact p1.elim

/-! ### held lists -/
def sAppend (i : Nat) (f : SE Dv) : SS := fun ρ π => match ρ[i]? with
  | some (.own ds) => thenS (f ρ π) ρ fun d π1 => (match d with
    | .val d => if ds.length < 16777216 then .nx (ρ.set i (.own (ds ++ [d]))) π1 else .bad
    | _ => .bad)
  | _ => .bad
theorem s_append (i : Nat) {x : Str} {e : Expr} {p apos cpos pos : Pos} {f : SE Dv} (he : PE X e (tE (Cx.md X tb) B f)) (hN : X.N[i]? = some x := by rfl) (hv : Vis X.env.scope x := by first | exact Or.inl rfl | exact Or.inr (Or.inl rfl) | exact Or.inr (Or.inr rfl))
    (hbase : attributeBase (.Name x p) "append" X.env (eval (.Name x p) X.env) = eval (.Name x p) X.env := by rfl)
    (hfew : ((backTo cpos (starEach [e] X.env)).all (fun x => !x.1) && (backToKw cpos (keywordEach [] X.env)).all (fun x => x.1.isSome) && decide ([e].length + ([] : List Keyword).length + (if ([] : List Keyword).isEmpty then 0 else 1) < 30)) = true := by rfl)
    (hline : (apos.endLine == cpos.line) = true := by rfl) (hs : starEach [e] X.env = (false, eval e X.env) :: starEach [] X.env := by rfl) (hplain : (backTo cpos (starEach [] X.env)).any (·.1) = false := by rfl) (hsw : swapsWith (.Call (.Attribute (.Name x p) "append" apos) [e] [] cpos) none pos.line X.env = pure false := by rfl)
    (hd : (x == ("__debug__" : Str)) = false := by decide) (hcd : (x == ("__classdict__" : Str)) = false := by decide) :
    PS X (.Expr (.Call (.Attribute (.Name x p) "append" apos) [e] [] cpos) pos) (tS (Cx.md X tb) W0 H0 B (sAppend i f)) := by
  refine PS.weak (ps_expr (pe_bm PySem.F.plainAttrs_list PySem.F.slot_list_append PySem.F.type_list_append mt_append (pe_var hN hv hd hcd) (pa_cons he pa_nil hs) hbase hfew hline hs hplain) hsw) ?_
  rintro D σ H ⟨W, ρ, π, st, p⟩
  unfold sAppend at p
  split at p
  · rename_i ds e1
    obtain ⟨a, xs, h1, h2, h3, h4, h5, h6⟩ := own_at st.st e1
    refine ⟨_, h1, .inl ⟨rfl, xs, SqL.of h4⟩, W, ρ, π, st.st, thenS_post st p fun d π1 W1 H1 v s1 r1 rv p1 => ?_⟩
    have h4' := s1.keep _ _ h4 h3 .lst
    cases rv with
    | pen _ => exact p1.elim
    | scr _ _ => exact p1.elim
    | err _ _ => exact p1.elim
    | dct _ _ _ => exact p1.elim
    | fn _ => exact p1.elim
    | val rd =>
      simp only at p1
      split at p1
      · rename_i hl
        have hz : xs.length < sizeLine := by rw [h6.length, sizeLine_eq]; exact hl
        exact ⟨a, xs, v, rfl, rfl, h4', hz, p1 W1 _ σ (r1.write e1 h1 (by rw [List.length_append]; exact hz) ((h6.mono s1.sub).append (.cons rd .nil))) (Same.refl _)⟩
      · exact p1.elim
  · exact p.elim
/-- xs.insert(i, e) -/
def sInsert (i : Nat) (g : SE (List Dv)) : SS := fun ρ π => match ρ[i]? with
  | some (.own ds) => thenS (g ρ π) ρ fun es π1 => (match es with
    | [.val (.int k), .val d] => if ds.length < 16777216 ∧ 0 ≤ k ∧ k < 2 ^ 63 then .nx (ρ.set i (.own (ds.take k.toNat ++ [d] ++ ds.drop k.toNat))) π1 else .bad
    | _ => .bad)
  | _ => .bad
theorem s_insert (i : Nat) {x : Str} {e e2 : Expr} {p apos cpos pos : Pos} {g : SE (List Dv)} (he : PA X [e, e2] (tA (Cx.md X tb) B g)) (hN : X.N[i]? = some x := by rfl) (hv : Vis X.env.scope x := by first | exact Or.inl rfl | exact Or.inr (Or.inl rfl) | exact Or.inr (Or.inr rfl))
    (hbase : attributeBase (.Name x p) "insert" X.env (eval (.Name x p) X.env) = eval (.Name x p) X.env := by rfl)
    (hfew : ((backTo cpos (starEach [e, e2] X.env)).all (fun x => !x.1) && (backToKw cpos (keywordEach [] X.env)).all (fun x => x.1.isSome) && decide ([e, e2].length + ([] : List Keyword).length + (if ([] : List Keyword).isEmpty then 0 else 1) < 30)) = true := by rfl)
    (hline : (apos.endLine == cpos.line) = true := by rfl) (hs : starEach [e, e2] X.env = (false, eval e X.env) :: starEach [e2] X.env := by rfl) (hplain : (backTo cpos (starEach [e2] X.env)).any (·.1) = false := by rfl) (hsw : swapsWith (.Call (.Attribute (.Name x p) "insert" apos) [e, e2] [] cpos) none pos.line X.env = pure false := by rfl)
    (hd : (x == ("__debug__" : Str)) = false := by decide) (hcd : (x == ("__classdict__" : Str)) = false := by decide) :
    PS X (.Expr (.Call (.Attribute (.Name x p) "insert" apos) [e, e2] [] cpos) pos) (tS (Cx.md X tb) W0 H0 B (sInsert i g)) := by
  refine PS.weak (ps_expr (pe_bm PySem.F.plainAttrs_list PySem.F.slot_list_insert PySem.F.type_list_insert mt_insert (pe_var hN hv hd hcd) he hbase hfew hline hs hplain) hsw) ?_
  rintro D σ H ⟨W, ρ, π, st, p⟩
  unfold sInsert at p
  split at p
  · rename_i ds e1
    obtain ⟨a, xs, h1, h2, h3, h4, h5, h6⟩ := own_at st.st e1
    refine ⟨_, h1, .inl ⟨rfl, xs, SqL.of h4⟩, W, ρ, π, st.st, thenS_post st p fun es π1 W1 H1 vs s1 r1 rv p1 => ?_⟩
    have h4' := s1.keep _ _ h4 h3 .lst
    split at p1
    · obtain ⟨v, w, rfl, q1, q2⟩ := rvl2 rv
      split at p1
      · rename_i k d hl
        cases rv_int q1
        have rd := rv_data q2
        have hz : xs.length < sizeLine := by rw [h6.length, sizeLine_eq]; exact hl.1
        refine ⟨a, xs, _, w, rfl, rfl, h4', hz, hl.2.1, hl.2.2, p1 W1 _ σ (r1.write e1 h1 ?_ ?_) (Same.refl _)⟩
        · simp only [List.length_append, List.length_take, List.length_drop, List.length_cons, List.length_nil]; omega
        · exact (((h6.mono s1.sub).take _).append (.cons rd .nil)).append ((h6.mono s1.sub).drop _)
      · exact p1.elim
    · exact p1.elim
  · exact p.elim
/-- xs[i] = e -/
def sItem (i : Nat) (fi fe : SE Dv) : SS := fun ρ π => match ρ[i]? with
  | some (.own ds) => thenS (fe ρ π) ρ fun d π1 => thenS (fi ρ π1) ρ fun k π2 => (match d, k with
    | .val d, .val (.int k) => (match ixN ds.length k with
      | some j => .nx (ρ.set i (.own (ds.set j d))) π2
      | none => .bad)
    | _, _ => .bad)
  | _ => .bad
theorem s_item (i : Nat) {x : Str} {e b : Expr} {p p2 pos : Pos} {fi fe : SE Dv} (he : PE X e (tE (Cx.md X tb) B fe)) (hb : PE X b (tE (Cx.md X tb) B fi)) (hN : X.N[i]? = some x := by rfl) (hv : Vis X.env.scope x := by first | exact Or.inl rfl | exact Or.inr (Or.inl rfl) | exact Or.inr (Or.inr rfl))
    (ha : ∀ v, assign (.Subscript (.Name x p) b p2) X.env v = (do
      let ov ← holding [v] (eval (.Name x p) X.env)
      let iv ← holding [v, ov] (eval b X.env)
      standAt p2
      holding [v, ov, iv] (setItem ov iv v)
      release [v, ov, iv] []) := by intro _; rfl)
    (hs : swapsWithSole [.Subscript (.Name x p) b p2] e pos.line X.env = pure false := by rfl) (hw : swappedStores [.Subscript (.Name x p) b p2] e X.env = pure none := by rfl) (h1 : (assignEach [.Subscript (.Name x p) b p2] X.env).map (·.2) = [assign (.Subscript (.Name x p) b p2) X.env] := by rfl)
    (hd : (x == ("__debug__" : Str)) = false := by decide) (hcd : (x == ("__classdict__" : Str)) = false := by decide) :
    PS X (.Assign [.Subscript (.Name x p) b p2] e pos) (tS (Cx.md X tb) W0 H0 B (sItem i fi fe)) := by
  refine PS.weak (ps_asg he (pg_sub (pe_var hN hv hd hcd) hb set_list ha) hs hw h1) ?_
  rintro D σ H ⟨W, ρ, π, st, p⟩
  unfold sItem at p
  split at p
  · rename_i ds e1
    obtain ⟨a, xs, h1, h2, h3, h4, h5, h6⟩ := own_at st.st e1
    refine ⟨W, ρ, π, st.st, thenS_post st p fun d π1 W1 H1 v s1 r1 rv p1 => ?_⟩
    refine ⟨_, h1, W1, ρ, π1, r1.st, thenS_post r1 p1 fun k π2 W2 H2 u s2 r2 ru p2 => ?_⟩
    have h4' := (s1.trans s2).keep _ _ h4 h3 .lst
    have h6' := h6.mono (s1.trans s2).sub
    split at p2
    · rename_i d' k'
      cases rv_int ru
      have rd := rv_data (rv.step s2)
      split at p2
      · rename_i j hj
        rw [← h6.length] at hj
        exact ⟨a, xs, k', j, rfl, rfl, h4', hj, p2 W2 _ σ (r2.write e1 h1 (by rw [List.length_set]; exact h5) (DqAll.set rd j h6')) (Same.refl _)⟩
      · exact p2.elim
    · exact p2.elim
  · exact p.elim
/-- return xs, xs held -/
def sRetO (i : Nat) : SS := fun ρ π => match ρ[i]? with
  | some (.own ds) => .rt (.val (.list ds)) π
  | _ => .bad
theorem s_retO (i : Nat) {x : Str} {p pos : Pos} (hN : X.N[i]? = some x := by rfl) (hv : Vis X.env.scope x := by first | exact Or.inl rfl | exact Or.inr (Or.inl rfl) | exact Or.inr (Or.inr rfl)) (hd : (x == ("__debug__" : Str)) = false := by decide) (hcd : (x == ("__classdict__" : Str)) = false := by decide) :
    PS X (.Return (some (.Name x p)) pos) (tS (Cx.md X tb) W0 H0 B (sRetO i)) := by
  refine PS.weak (ps_ret (pe_var hN hv hd hcd)) ?_
  rintro D σ H ⟨W, ρ, π, st, p⟩
  unfold sRetO at p
  split at p
  · rename_i ds e
    obtain ⟨W', r, ss, a, h1, h2⟩ := st.letgo e
    exact ⟨_, h1, p W' H _ r.go r.st.pen r.st.same (.val h2)⟩
  · exact p.elim

/-! ### the pen -/
def intsOf : List PyData → Option (List Int)
  | [] => some []
  | .int i :: r => (intsOf r).map (i :: ·)
  | _ :: _ => none
theorem ints_v {F : Hp} : ∀ {vs : List V} {ds : List PyData} {ns : List Int}, DqAll F vs ds → intsOf ds = some ns → vs = ns.map V.int
  | _, _, xs, .nil, h => by cases h; rfl
  | _, _, xs, .cons r t, h => by
    cases r with
    | int x =>
      unfold intsOf at h
      cases q : intsOf _ with
      | none => rw [q] at h; cases h
      | some l => rw [q] at h; cases h; rw [ints_v t q]; rfl
    | non => cases h
    | bl _ => cases h
    | str _ => cases h
    | lst _ _ _ => cases h
    | tup _ _ _ => cases h
/-- return [cells, a, b]: the pen is made -/
def sRetPen (i : Nat) (a b : Int) : SS := fun ρ π => match π, ρ[i]? with
  | none, some (.own ds) => (match intsOf ds with
    | some ns => .rt .pen (some ⟨ns, a, b⟩)
    | none => .bad)
  | _, _ => .bad
theorem s_retPen (i : Nat) {x : Str} {a b : Int} {j1 j2 : Nat} {p p1 p2 p3 pos : Pos} (hN : X.N[i]? = some x := by rfl) (hv : Vis X.env.scope x := by first | exact Or.inl rfl | exact Or.inr (Or.inl rfl) | exact Or.inr (Or.inr rfl)) (hd : (x == ("__debug__" : Str)) = false := by decide) (hcd : (x == ("__classdict__" : Str)) = false := by decide)
    (h1 : starEach [.Name x p, .Constant (.int a) j1 p1, .Constant (.int b) j2 p2] X.env = (false, eval (.Name x p) X.env) :: starEach [.Constant (.int a) j1 p1, .Constant (.int b) j2 p2] X.env := by rfl)
    (h2 : starEach [.Constant (.int a) j1 p1, .Constant (.int b) j2 p2] X.env = (false, eval (.Constant (.int a) j1 p1) X.env) :: starEach [.Constant (.int b) j2 p2] X.env := by rfl) (h3 : starEach [.Constant (.int b) j2 p2] X.env = (false, eval (.Constant (.int b) j2 p2) X.env) :: starEach [] X.env := by rfl) :
    PS X (.Return (some (.List [.Name x p, .Constant (.int a) j1 p1, .Constant (.int b) j2 p2] p3)) pos) (tS (Cx.md X tb) W0 H0 B (sRetPen i a b)) := by
  refine PS.weak (ps_ret (pe_lst (pa_cons (pe_var hN hv hd hcd) (pa_cons pe_int (pa_cons pe_int pa_nil h3) h2) h1))) ?_
  rintro D σ H ⟨W, ρ, π, st, p⟩
  unfold sRetPen at p
  split at p
  · rename_i ds e
    split at p
    · rename_i ns hq
      obtain ⟨c, xs, g1, g2, g3, g4, g5, g6⟩ := own_at st.st e
      have ex := ints_v g6 hq
      subst ex
      refine ⟨_, g1, by show 3 ≤ sizeLine; rw [sizeLine_eq]; decide, fun q nq => ?_⟩
      obtain ⟨W', r, ss, c', h1', h2'⟩ := st.letgo e
      rw [g1] at h1'; cases h1'
      have ec : W'.F c = some (.lst (ns.map V.int)) := by
        cases h2' with
        | lst e' z r' =>
          have := r.st.same _ _ e'
          rw [g4] at this; cases this; exact e'
      obtain ⟨s2, pn2, sm2⟩ := freshOwn (o := .lst [.ref c, .int a, .int b]) r.st.same r.st.pen nq
      have np : W'.pa = none := r.st.pen.pen
      have nf : W'.F q = none := r.st.same.free nq
      refine p ⟨W'.F, some q, W'.tb⟩ _ (.ref q) (r.go.trans ⟨Same.refl _, fun _ _ e => .inl e, s2.keep, s2.there, fun z h => (by rw [np] at h; cases h), fun z h => ?_, rfl⟩) ⟨⟨q, c, rfl, nf, upd_same, ec, by rw [List.length_map] at g5; exact g5⟩, fun P hP => pn2.tab P hP⟩ sm2 (.pen rfl)
      cases h; exact .inr nq
    · exact p.elim
  · exact p.elim
/-- pen[k], k written -/
def ePen (i k : Nat) : SE Dv := fun ρ π => match ρ[i]?, π with
  | some (.val .pen), some pe => (match k with
    | 0 => .ok (.val (.list (pe.cells.map PyData.int))) π
    | 1 => .ok (.val (.int pe.pos)) π
    | 2 => .ok (.val (.int pe.held)) π
    | _ => .bad)
  | _, _ => .bad
theorem pen_at {M : Md} {W : Wd} {H : Hp} {ρ : List Sv} {pe : PenS} {σ : L2.St} {i : Nat} (st : StE M W H ρ (some pe) σ) (e : ρ[i]? = some (.val .pen)) : ∃ a ca, σ[i]? = some (some (.ref a)) ∧ W.pa = some a ∧ W.F a = none ∧ H a = some (.lst [.ref ca, .int pe.pos, .int pe.held]) ∧ W.F ca = some (.lst (pe.cells.map V.int)) ∧ pe.cells.length ≤ sizeLine := by
  obtain ⟨o, h1, h2⟩ := st.sl i _ e
  cases h2 with
  | val r => cases r with
    | pen hp =>
      obtain ⟨a, ca, k1, k2, k3, k4, k5⟩ := st.pen.pen
      rw [hp] at k1; cases k1
      exact ⟨_, ca, h1, hp, k2, k3, k4, k5⟩
theorem e_pen (i k : Nat) {x : Str} {j : Nat} {p p1 pos : Pos} (hN : X.N[i]? = some x := by rfl) (hv : Vis X.env.scope x := by first | exact Or.inl rfl | exact Or.inr (Or.inl rfl) | exact Or.inr (Or.inr rfl)) (hd : (x == ("__debug__" : Str)) = false := by decide) (hcd : (x == ("__classdict__" : Str)) = false := by decide) :
    PE X (.Subscript (.Name x p) (.Constant (.int (k : Int)) j p1) pos) (tE (Cx.md X tb) B (ePen i k)) := by
  refine PE.weak (pe_ix ix_list (pe_var hN hv hd hcd) pe_int (fun _ _ => rfl)) ?_
  rintro σ H Q ⟨W, ρ, π, st, p⟩
  unfold ePen at p
  split at p
  · rename_i pe e
    obtain ⟨a, ca, h1, h2, h3, h4, h5, h6⟩ := pen_at st e
    split at p
    · exact ⟨_, h1, a, _, 0, .ref ca, rfl, rfl, SqL.of h4, rfl, p.now st.pen st.same (.val (.lst h5 (by rw [List.length_map]; exact h6) (DqAll.ints _)))⟩
    · exact ⟨_, h1, a, _, 1, .int pe.pos, rfl, rfl, SqL.of h4, rfl, p.now st.pen st.same (.val (.int _))⟩
    · exact ⟨_, h1, a, _, 2, .int pe.held, rfl, rfl, SqL.of h4, rfl, p.now st.pen st.same (.val (.int _))⟩
    · exact p.elim
  · exact p.elim
/-- pen[k] = e, k written -/
def sPen (i k : Nat) (f : SE Dv) : SS := fun ρ π => thenS (f ρ π) ρ fun d π1 => match ρ[i]?, π1, d with
  | some (.val .pen), some pe, .val (.int v) => (match k with
    | 1 => .nx ρ (some ⟨pe.cells, v, pe.held⟩)
    | 2 => .nx ρ (some ⟨pe.cells, pe.pos, v⟩)
    | _ => .bad)
  | _, _, _ => .bad
theorem pen_write {W : Wd} {H : Hp} {ρ : List Sv} {pe pe' : PenS} {σ : L2.St} {a ca : Addr} {M : Md} (r : StR M W0 H0 W H ρ (some pe) σ) (h2 : W.pa = some a) (h3 : W.F a = none) (h4 : H a = some (.lst [.ref ca, .int pe.pos, .int pe.held])) (h5 : W.F ca = some (.lst (pe'.cells.map V.int))) (h6 : pe'.cells.length ≤ sizeLine) :
    StR M W0 H0 W (upd H a (.lst [.ref ca, .int pe'.pos, .int pe'.held])) ρ (some pe') σ := by
  refine ⟨⟨fun b u x => ?_, ⟨⟨a, ca, h2, h3, upd_same, h5, h6⟩, fun P hP => ⟨(r.st.pen.tab P hP).1, (r.st.pen.tab P hP).2.upd (tab_ne (r.st.pen.tab P hP).2 h4 .lst)⟩⟩, r.st.tbe, r.st.len, fun j s h => ?_, r.st.apart⟩, ⟨r.go.sub, r.go.grow, fun b u x n k => ?_, fun b x => ?_, r.go.pa, r.go.newpa, r.go.tb⟩, r.new⟩
  · have : b ≠ a := fun z => by rw [z, h3] at x; cases x
    rw [upd_ne this]; exact r.st.same b u x
  · obtain ⟨o, g1, g2⟩ := r.st.sl j s h
    refine ⟨o, g1, ?_⟩
    cases g2 with
    | emp => exact .emp
    | val rv => exact .val rv
    | @own b zs fs f1 f2 f3 f4 f5 =>
      have : b ≠ a := fun z => f2 (z ▸ h2)
      exact .own f1 f2 (by rw [upd_ne this]; exact f3) f4 f5
  · by_cases e : b = a
    · subst e
      exfalso
      rcases r.go.newpa b h2 with z | z
      · exact n z
      · rw [x] at z; cases z
    · rw [upd_ne e]; exact r.go.keep b u x n k
  · by_cases e : b = a
    · subst e; rw [upd_same] at x; cases x
    · rw [upd_ne e] at x; exact r.go.there b x
theorem s_pen (i k : Nat) {x : Str} {e : Expr} {j : Nat} {p p1 p2 pos : Pos} {f : SE Dv} (he : PE X e (tE (Cx.md X tb) B f)) (hN : X.N[i]? = some x := by rfl) (hv : Vis X.env.scope x := by first | exact Or.inl rfl | exact Or.inr (Or.inl rfl) | exact Or.inr (Or.inr rfl))
    (ha : ∀ v, assign (.Subscript (.Name x p) (.Constant (.int (k : Int)) j p1) p2) X.env v = (do
      let ov ← holding [v] (eval (.Name x p) X.env)
      let iv ← holding [v, ov] (eval (.Constant (.int (k : Int)) j p1) X.env)
      standAt p2
      holding [v, ov, iv] (setItem ov iv v)
      release [v, ov, iv] []) := by intro _; rfl)
    (hs : swapsWithSole [.Subscript (.Name x p) (.Constant (.int (k : Int)) j p1) p2] e pos.line X.env = pure false := by rfl) (hw : swappedStores [.Subscript (.Name x p) (.Constant (.int (k : Int)) j p1) p2] e X.env = pure none := by rfl)
    (h1 : (assignEach [.Subscript (.Name x p) (.Constant (.int (k : Int)) j p1) p2] X.env).map (·.2) = [assign (.Subscript (.Name x p) (.Constant (.int (k : Int)) j p1) p2) X.env] := by rfl)
    (hd : (x == ("__debug__" : Str)) = false := by decide) (hcd : (x == ("__classdict__" : Str)) = false := by decide) :
    PS X (.Assign [.Subscript (.Name x p) (.Constant (.int (k : Int)) j p1) p2] e pos) (tS (Cx.md X tb) W0 H0 B (sPen i k f)) := by
  refine PS.weak (ps_asg he (pg_sub (pe_var hN hv hd hcd) pe_int set_list ha) hs hw h1) ?_
  rintro D σ H ⟨W, ρ, π, st, p⟩
  refine ⟨W, ρ, π, st.st, thenS_post st p fun d π1 W1 H1 v s1 r1 rv p1 => ?_⟩
  split at p1
  · rename_i pe w e1
    obtain ⟨a, ca, g1, h2, h3, h4, h5, h6⟩ := pen_at r1.st e1
    cases rv_int (X := X) rv
    split at p1
    · exact ⟨_, g1, a, _, 1, 1, rfl, rfl, h4, rfl, p1 W1 _ σ (pen_write (pe' := ⟨pe.cells, w, pe.held⟩) r1 h2 h3 h4 h5 h6) (Same.refl _)⟩
    · exact ⟨_, g1, a, _, 2, 2, rfl, rfl, h4, rfl, p1 W1 _ σ (pen_write (pe' := ⟨pe.cells, pe.pos, w⟩) r1 h2 h3 h4 h5 h6) (Same.refl _)⟩
    · exact p1.elim
  · exact p1.elim
end
end DL

set_option maxRecDepth 100000
set_option maxHeartbeats 8000000
namespace DL
open PySem PySem.Spec PyProof.Rows L2
section
variable {X : Cx} {tb : Tb} {B : WX} {W0 : Wd} {H0 : Hp}

/-! ### raise -/
structure ExT (K : PySem.W.Frag) (mg : Str → Option Value) (n : Str) (C : Addr) : Prop where
  g : mg n = some (.ref C)
  x : PySem.W.excIn K C [.type "ValueError", .type "Exception", .type "BaseException", .type "object"] "ValueError.__new__" = true
  k : PySem.W.keepIn K (.ref C) = true
  b : PySem.W.subIn K (.ref C) (.type "BaseException") = some true
  t : PySem.W.typeIn K (.ref C) = some (.type "type")
def sRaise (n : Str) : SS := fun ρ π => .exn n ρ π
theorem s_raise {n m : Str} {C : Addr} {j : Nat} {p p2 p3 pos : Pos} (T : ExT X.K X.mg n C) (hc : X.calm = true) (tk : Takes X B) (hg : Gl X n := by rfl) (hdb : (n == ("__debug__" : Str)) = false := by decide) :
    PS X (.Raise (some (.Call (.Name n p) [.Constant (.str m) j p2] [] p3)) none pos) (tS (Cx.md X tb) W0 H0 B (sRaise n)) := by
  refine PS.weak (ps_raise hc tk (pmk_own PySem.F.excBase_ValueError T.x T.g T.k (raises_own T.b T.t) hg hdb)) ?_
  rintro D σ H ⟨W, ρ, π, st, p⟩
  exact p W H σ C st (Same.refl _) T.g

/-! ### {k: v, ..}[e], two written entries -/
def eDict2 (k1 v1 k2 v2 : Str) (f : SE Dv) : SE Dv := fun ρ π => (f ρ π).bind fun d π1 => match d with
  | .val (.str x) => if x = k1 then .ok (.val (.str v1)) π1 else if x = k2 then .ok (.val (.str v2)) π1 else .bad
  | _ => .bad
theorem e_dict2 {k1 v1 k2 v2 : Str} {j1 j2 j3 j4 : Nat} {p1 p2 p3 p4 pd pos : Pos} {e : Expr} {f : SE Dv} (hu : X.A.units + 1 < cLine) (hne : k1 ≠ k2) (he : PE X e (tE (Cx.md X tb) B f)) (hs : NoSl e := by exact fun _ _ => rfl) :
    PE X (.Subscript (.Dict [some (.Constant (.str k1) j1 p1), some (.Constant (.str k2) j2 p2)] [.Constant (.str v1) j3 p3, .Constant (.str v2) j4 p4] pd) e pos) (tE (Cx.md X tb) B (eDict2 k1 v1 k2 v2 f)) := by
  refine PE.weak (pe_dget hu (pe_disp (pps_cons pe_str pe_str (pps_cons pe_str pe_str pps_nil)) rfl rfl (by simp) (by show 2 ≤ 15; decide)) he hs) ?_
  rintro σ H Q ⟨W, ρ, π, st, p⟩
  intro d nd
  have hn2 : k2 ≠ k1 := fun z => hne z.symm
  have em : mergeK ([] : List (Key × V)) [(Sum.inr k1, V.str v1), (Sum.inr k2, V.str v2)] = [(Sum.inr k1, V.str v1), (Sum.inr k2, V.str v2)] := by
    simp [mergeK, putK, hne, hn2]
  show upd H d (.dK []) d = _ ∧ ∃ kvs, [(V.str k1, V.str v1), (V.str k2, V.str v2)] = _ ∧ _
  refine ⟨upd_same, [(Sum.inr k1, .str v1), (Sum.inr k2, .str v2)], rfl, by show 2 ≤ 15; decide, ?_⟩
  rw [em, upd_upd]
  obtain ⟨s0, pn0, sm0⟩ := freshOwn (o := .dK [(Sum.inr k1, .str v1), (Sum.inr k2, .str v2)]) st.same st.pen nd
  refine ⟨W, ρ, π, st.step s0 pn0 sm0, ?_⟩
  have npd : W.pa ≠ some d := st.pen.npa nd
  refine Post.bind (R' := Rv (Cx.md X tb)) (k := fun d π1 => match d with
    | .val (.str x) => if x = k1 then .ok (.val (.str v1)) π1 else if x = k2 then .ok (.val (.str v2)) π1 else .bad
    | _ => .bad) (Post.step p s0) fun a π1 W1 H1 v s1 pn1 sm1 r1 p1 => ?_
  have hd : H1 d = some (.dK [(Sum.inr k1, .str v1), (Sum.inr k2, .str v2)]) := s1.keep _ _ upd_same npd fun _ z => nomatch z
  split at p1
  · rename_i x
    cases rv_str (X := X) r1
    split at p1
    · rename_i h
      refine ⟨d, .str v1, rfl, ?_, p1.now pn1 sm1 (.val (.str _))⟩
      have := DGet.k (k := (Sum.inr x : Key)) hd
      simpa [valV, kV, h] using this
    · rename_i h1
      split at p1
      · rename_i h
        refine ⟨d, .str v2, rfl, ?_, p1.now pn1 sm1 (.val (.str _))⟩
        have := DGet.k (k := (Sum.inr x : Key)) hd
        subst h
        simpa [valV, kV, hne] using this
      · exact p1.elim
  · exact p1.elim

/-! ### isinstance against a built-in type -/
def tyD : Dv → Option String
  | .val .none => some "NoneType"
  | .val (.bool _) => some "bool"
  | .val (.int _) => some "int"
  | .val (.str _) => some "str"
  | .val (.list _) => some "list"
  | .val (.tuple _) => some "tuple"
  | _ => none
theorem tyD_ok {W : Wd} {H : Hp} {v : V} {d : Dv} {t : String} (sm : Same W.F H) (r : Rv (Cx.md X tb) W v d) (h : tyD d = some t) : TyX X.K H v (.type t) := by
  cases r with
  | pen _ => cases h
  | scr _ _ => cases h
  | err _ _ => cases h
  | dct _ _ _ => cases h
  | fn _ => cases h
  | val r => cases r with
    | non => cases h; exact .base .non
    | bl b => cases h; exact .base (.bl b)
    | int b => cases h; exact .base (.int b)
    | str b => cases h; exact .base (.str b)
    | lst e _ _ => cases h; exact .base (.lst (sm _ _ e))
    | tup e _ _ _ => cases h; exact .fTuple (sm _ _ e)
def eIsTy (T : String) (f : SE Dv) : SE Dv := fun ρ π => (f ρ π).bind fun d π1 => match (tyD d).bind fun t => kitB t T with
  | some b => .ok (.val (.bool b)) π1
  | none => .bad
theorem e_isTy {p p2 pos : Pos} {e : Expr} {tn : Str} {T : String} {f : SE Dv} (hm : X.mg "isinstance" = none) (hmT : X.mg tn = none) (hvT : bootBuiltins tn = some (.type T)) (he : PE X e (tE (Cx.md X tb) B f)) (hg : Gl X "isinstance" := by rfl) (hgT : Gl X tn := by rfl) (hnT : tn ≠ "__name__" := by decide) (hdT : (tn == ("__debug__" : Str)) = false := by decide)
    (hs : starEach [e, .Name tn p2] X.env = (false, eval e X.env) :: starEach [.Name tn p2] X.env := by rfl) (hs2 : starEach [.Name tn p2] X.env = (false, eval (.Name tn p2) X.env) :: starEach [] X.env := by rfl) (hpl : (backTo pos (starEach [.Name tn p2] X.env)).any (·.1) = false := by rfl) :
    PE X (.Call (.Name "isinstance" p) [e, .Name tn p2] [] pos) (tE (Cx.md X tb) B (eIsTy T f)) := by
  refine PE.weak (pe_callB call_isi hg hm (by decide +kernel) (pa_cons he (pa_cons (pe_bltn (v := .ty T) hgT hmT hvT rfl hnT hdT) pa_nil hs2) hs) (by decide) (by decide) hs hpl) ?_
  rintro σ H Q ⟨W, ρ, π, st, p⟩
  refine ⟨W, ρ, π, st, p.bind fun d π1 W1 H1 v s1 pn1 sm1 r1 p1 => ?_⟩
  show ∃ x c t u b, [v, V.ty T] = [x, c] ∧ _
  cases q : tyD d with
  | none => simp only [q, Option.bind] at p1; exact p1.elim
  | some t =>
    have q1 : (tyD d).bind (fun t => kitB t T) = kitB t T := by rw [q]; rfl
    simp only [q1] at p1
    cases q2 : kitB t T with
    | none => simp only [q2] at p1; exact p1.elim
    | some b =>
      simp only [q2] at p1
      exact ⟨v, .ty T, .type t, .type T, b, rfl, .ty T, tyD_ok sm1 r1 q, kit_ty q2, p1.now pn1 sm1 (.val (.bl b))⟩

/-! ### all(x in 'k' for x in text) -/
theorem elt_in {prog : Program} {w : World} {scope : Scope} {x k : Str} {j : Nat} {p1 p2 p3 : Pos} (hk : scope.kind = .function) (hl : scope.names.lookup x = some .local) (hd : (x == ("__debug__" : Str)) = false := by decide) :
    GxR.EltP prog w scope x (.Compare (.Name x p1) [.In] [.Constant (.str k) j p2] p3) (fun c => decide (c ∈ k.cps.toList)) := by
  intro cenv A' E' c t s₂ m₂ hs hn hm
  refine wpAny_Compare1 (wpAny_Name (wpAny_loadName_local (by rw [hs]; exact hk) (show cenv.scope.names.lookup x = some .local by rw [hs]; exact hl) hn hm (Calls.Constant_str ?_)) hd) rfl
  refine PyProof.Rows.in_str ?_
  exact ⟨by rw [PySem.StrLaws.found_one k c], GxR.keeps_tok _ _⟩
def eAllIn (k : Str) (f : SE Dv) : SE Dv := fun ρ π => (f ρ π).bind fun d π1 => match d with
  | .val (.str a) => .ok (.val (.bool (a.cps.toList.all fun c => decide (c ∈ k.cps.toList)))) π1
  | _ => .bad
theorem tab_step {W : Wd} {H H' : Hp} {π : Pn} {P : Addr} (sm : Same W.F H) (pn : PenOk W H π) (hP : P ∈ W.tb.l) (hq : W.tb.q P = none) (h : GxR.Tabbed P H H') : Step W H W H' ∧ PenOk W H' π ∧ Same W.F H' := by
  obtain ⟨tg, k⟩ := h
  have hF := (pn.tab P hP).1
  refine ⟨⟨Same.refl _, fun _ _ e => .inl e, fun a o e _ nt => ?_, fun a e => ?_, fun _ e => e, fun _ e => .inl e, rfl⟩, ⟨?_, fun P' hP' => ⟨(pn.tab P' hP').1, ?_⟩⟩, fun a o e => ?_⟩
  · have : a ≠ P := fun z => by
      obtain ⟨⟨ps, q, _⟩, _⟩ := (pn.tab P hP).2
      rw [z, q] at e
      exact nt ps (Option.some.inj e).symm
    rw [k a this]; exact e
  · by_cases z : a = P
    · subst z; obtain ⟨ps, q, _⟩ := tg; rw [q] at e; cases e
    · rw [k a z] at e; exact e
  · cases π with
    | none => exact pn.pen
    | some pe =>
      obtain ⟨a, ca, h1, h2, h3, h4, h5⟩ := pn.pen
      have : a ≠ P := fun z => (tab_ne (pn.tab P hP).2 h3 .lst) z.symm
      exact ⟨a, ca, h1, h2, by rw [k a this]; exact h3, h4, h5⟩
  · by_cases z : P' = P
    · subst z; exact ⟨tg, fun u hu => by rw [hq] at hu; cases hu⟩
    · obtain ⟨⟨ps, q, r⟩, r2⟩ := (pn.tab P' hP').2
      exact ⟨⟨ps, by rw [k P' z]; exact q, r⟩, fun u hu xs hx => r2 u hu xs (by rw [← k P' z]; exact hx)⟩
  · have : a ≠ P := fun z => by rw [z, hF] at e; cases e
    rw [k a this]; exact sm a o e
theorem e_allIn {c P : Addr} {iter : Expr} {x k : Str} {j n : Nat} {px p pos gpos p1 p2 p3 : Pos} {scope : Scope} {f : SE Dv} (hr : Room n X.A) (hm : X.mg "all" = none) (TB : GxR.TabB X.base X.mg c P) (hP : P ∈ tb.l) (hQ : tb.q P = none) (hcode : X.env.code = .ref c) (S : GxR.GenS X.env scope x) (hi : PE X iter (tE (Cx.md X tb) B f))
    (hg : Gl X "all" := by rfl) (hd : (x == ("__debug__" : Str)) = false := by decide) (hs : ∀ v, genFold iter X.env v = pure v := by intro _; rfl)
    (he : starEach [.GeneratorExp (.Compare (.Name x p1) [.In] [.Constant (.str k) j p2] p3) [⟨.Name x px, iter, [], 0⟩] scope gpos] X.env = (false, eval (.GeneratorExp (.Compare (.Name x p1) [.In] [.Constant (.str k) j p2] p3) [⟨.Name x px, iter, [], 0⟩] scope gpos) X.env) :: starEach [] X.env := by rfl) :
    PE X (.Call (.Name "all" p) [.GeneratorExp (.Compare (.Name x p1) [.In] [.Constant (.str k) j p2] p3) [⟨.Name x px, iter, [], 0⟩] scope gpos] [] pos) (tE (Cx.md X tb) B (eAllIn k f)) := by
  refine PE.weak (GxR.pe_allS hr hg hm (by decide +kernel) TB hcode S hi (elt_in S.kind S.loc hd) hs he) ?_
  rintro σ H Q ⟨W, ρ, π, st, p⟩
  refine ⟨W, ρ, π, st, p.bind fun d π1 W1 H1 v s1 pn1 sm1 r1 p1 => ?_⟩
  split at p1
  · rename_i a
    cases rv_str (X := X) r1
    have hP1 : P ∈ W1.tb.l := by rw [s1.tb, st.tbe]; exact hP
    have hQ1 : W1.tb.q P = none := by rw [s1.tb, st.tbe]; exact hQ
    refine ⟨a, rfl, (pn1.tab P hP1).2.1, fun H2 hT => ?_⟩
    obtain ⟨s2, pn2, sm2⟩ := tab_step sm1 pn1 hP1 hQ1 hT
    exact p1 W1 H2 _ s2 pn2 sm2 (.val (.bl _))
  · exact p1.elim
end
end DL

set_option maxRecDepth 100000
set_option maxHeartbeats 8000000
namespace DL
open PySem PySem.Spec PyProof.Rows L2

/-! ### the law's own call -/
/-- what the law is to do, over plain data -/
def Holds (μ : Mu) : Prop := ∀ ns : List Int, ns.length ≤ 63 → (∀ z ∈ ns, Builtin.Int.intBits z ≤ 1048576) → ∃ π, μ [.scr ns] none = .ok (.val (.bool true)) π
section
variable {P : Program} {w : World} {K : PySem.W.Frag} {mg mb : Str → Option Value} {k : Nat} {fa a : Addr} {tb : List (Addr × Addr)} {tq : Addr → Option Str} {fd : FuncData} {x : Str} {s₁ : Shared} {vs : List Value} {ns : List Int} {μ : Mu}
/-- the ground: all but what is tracked -/
theorem ground_core (KX : K.In s₁.heap) (hns : s₁.heap.Ns mainGlobals mg) (hb : s₁.heap.Ns builtinsNs mb) (hbb : ∀ x : Str, x ≠ "__name__" → mb x = bootBuiltins x) (hlim : s₁.heap.NoLimit) (hg : s₁.gens = #[])
    (hT : ∀ p ∈ tb, s₁.heap.get? p.2 = some { cls := .none, data := .fields #[] }) (C : ∀ p ∈ tb, PySem.W.CodeHd s₁.heap p.1 p.2)
    (hbm : ∃ (bm : Addr) (ob : Obj), mg "__builtins__" = some (.ref bm) ∧ bm ≠ builtinsNs ∧ s₁.heap.get? bm = some ob ∧ ob.cls = .type "module" ∧ ob.dict = some builtinsNs ∧ ob.data = .plain)
    (ha : s₁.heap.get? a = some { cls := .type "list", data := .seq vs.toArray }) (H : Hp) (hok : HOk P w H s₁.heap) (hA : ∀ b, H b ≠ none → b = a ∨ ∃ p ∈ tb, b = p.2) (hK : ∀ b, H b ≠ none → K.lookup b = none) :
    K.In (hidT s₁.heap H) ∧ (hidT s₁.heap H).Ns mainGlobals mg ∧ Env0 P w K mg (hidT s₁.heap H) callerA [] s₁ H ∧ ∀ p ∈ tb, GxR.TabB (hidT s₁.heap H) mg p.1 p.2 := by
  have free : ∀ {b : Addr} {o : Obj}, s₁.heap.get? b = some o → (∀ vs n, o.data ≠ .seq vs n) → o.data ≠ .fields #[] → H b = none := fun {b o} e h1 h2 => by
    by_cases q : H b = none
    · exact q
    · exfalso
      rcases hA b q with e' | ⟨p, hp, e'⟩
      · rw [e', ha] at e; cases e; exact h1 _ _ rfl
      · rw [e', hT p hp] at e; cases e; exact h2 rfl
  have dict : ∀ {b : Addr} {m : Str → Option Value}, s₁.heap.Ns b m → (hidT s₁.heap H).Ns b m := fun {b m} ⟨o, es, ep, e, d, r⟩ => ⟨o, es, ep, hidT_get e (free e (fun vs n z => by rw [d] at z; cases z) fun z => by rw [d] at z; cases z), d, r⟩
  have kin : K.In (hidT s₁.heap H) := fun b o e => hidT_get (KX b o e) (by
    by_cases q : H b = none
    · exact q
    · rw [hK b q] at e; cases e)
  have hM : L2.Mod K mg (hidT s₁.heap H) := ⟨kin, dict hns, ⟨mb, dict hb, hbb⟩, let ⟨mc, h1, h2⟩ := hlim; ⟨mc, dict h1, h2⟩⟩
  refine ⟨kin, dict hns, ⟨rfl, hM, fun b o e => of_hidT e, Nat.le_of_eq (hidT_size _ _), trivial, fun b hb => (nomatch hb), hok, .of_eq hg⟩, fun p hp => ⟨?_, ?_, fun z => ?_⟩⟩
  · obtain ⟨o, us, file, tf, flags, tg, inF, text, tt, e1, r1, r2, r3, r⟩ := C p hp
    exact ⟨o, us, file, tf, flags, tg, inF, text, tt, hidT_get e1 (free e1 (fun vs n z => by rw [r2] at z; cases z) fun z => by rw [r2] at z; cases z; simp at r3), r1, r2, r3, r⟩
  · obtain ⟨bm, ob, b1, b2, b3, b4, b5, b6⟩ := hbm
    refine ⟨bm, ob, b1, b2, fun q => ?_, fun q => ?_, hidT_get b3 (free b3 (fun vs n z => by rw [b6] at z; cases z) fun z => by rw [b6] at z; cases z), b4, b5, b6⟩
    · obtain ⟨o, es, ep, e, hd, _⟩ := hns
      rw [q, e] at b3; cases b3
      rw [hd] at b6; cases b6
    · rw [q, hT p hp] at b3; cases b3; cases b6
  · obtain ⟨o, es, ep, e, hd, _⟩ := hns
    rw [z, hT p hp] at e; cases e; cases hd
theorem law_callG (KX : K.In s₁.heap) (hns : s₁.heap.Ns mainGlobals mg) (hb : s₁.heap.Ns builtinsNs mb) (hbb : ∀ x : Str, x ≠ "__name__" → mb x = bootBuiltins x) (hlim : s₁.heap.NoLimit) (hg : s₁.gens = #[])
    (hT : ∀ p ∈ tb, s₁.heap.get? p.2 = some { cls := .none, data := .fields #[] }) (nT : ∀ p ∈ tb, K.lookup p.2 = none) (C : ∀ p ∈ tb, PySem.W.CodeHd s₁.heap p.1 p.2)
    (hbm : ∃ (bm : Addr) (ob : Obj), mg "__builtins__" = some (.ref bm) ∧ bm ≠ builtinsNs ∧ s₁.heap.get? bm = some ob ∧ ob.cls = .type "module" ∧ ob.dict = some builtinsNs ∧ ob.data = .plain)
    (ha : s₁.heap.get? a = some { cls := .type "list", data := .seq vs.toArray }) (hi : IntsAre vs ns) (hl : ns.length ≤ 63) (hbits : ∀ z ∈ ns, Builtin.Int.intBits z ≤ 1048576) (hr : Room k callerA)
    (F : ∀ base : Heap, K.In base → base.Ns mainGlobals mg → (∀ p ∈ tb, GxR.TabB base mg p.1 p.2) → FnG P w K mg base ⟨tb.map (·.2), tq⟩ k fa fd [x] μ) (hbind : ∀ (s : Shared) (u : Value), BindsTo s fd ⟨[u], []⟩ [(x, u)]) (hμ : Holds μ) :
    codeAny (model P w) callerA (.call (.ref fa) ⟨[.ref a], []⟩) (fun r s' => r = .ok (.ret (.bool true)) ∧ OldK s₁.heap s'.heap ∧ s'.os = s₁.os ∧ AllBare s'.gens) s₁ := by
  have rv := vals_ints hi
  have lenV := hi.length
  have hl' : ns.length ≤ sizeLine := Nat.le_trans hl (by rw [sizeLine_eq]; decide)
  have aT : ∀ p ∈ tb, a ≠ p.2 := fun p hp z => by rw [z, hT p hp] at ha; cases ha
  let tabs : List Addr := tb.map (·.2)
  have inT : ∀ b : Addr, b ∈ tabs → ∃ p ∈ tb, b = p.2 := fun b hb => let ⟨p, hp, e⟩ := List.mem_map.mp hb; ⟨p, hp, e.symm⟩
  -- what is tracked: the tables, and the script where it is no object of the module's own
  let H : Hp := fun b => if b ∈ tabs then some (.tbl #[]) else if b = a ∧ K.lookup a = none then some (.frz { cls := .type "list", data := .seq vs.toArray } (.lst (ns.map V.int))) else none
  have ntab : a ∉ tabs := fun z => let ⟨p, hp, e⟩ := inT a z; aT p hp e
  have Htab : ∀ b, b ∈ tabs → H b = some (.tbl #[]) := fun b hb => if_pos hb
  have hS : SqL K H a (ns.map V.int) := by
    cases hk : K.lookup a with
    | some o =>
      have e := KX a o hk
      rw [ha] at e; cases e
      exact .inr ⟨_, vs.toArray, _, hk, rfl, rfl, rfl, by rw [List.size_toArray, lenV]; exact hl', by simpa using rv⟩
    | none =>
      refine .inl (.inr ⟨{ cls := .type "list", data := .seq vs.toArray }, ?_⟩)
      show (if a ∈ tabs then _ else _) = _
      rw [if_neg ntab, if_pos ⟨rfl, hk⟩]
  have shape : ∀ b u, H b = some u → (b ∈ tabs ∧ u = .tbl #[]) ∨ (b = a ∧ K.lookup a = none ∧ u = .frz { cls := .type "list", data := .seq vs.toArray } (.lst (ns.map V.int))) := fun b u e => by
    have e : (if b ∈ tabs then some (HO.tbl #[]) else if b = a ∧ K.lookup a = none then some (.frz { cls := .type "list", data := .seq vs.toArray } (.lst (ns.map V.int))) else none) = some u := e
    split at e
    · cases e; exact .inl ⟨by assumption, rfl⟩
    · split at e
      · rename_i h; cases e; exact .inr ⟨h.1, h.2, rfl⟩
      · cases e
  have hok : HOk P w H s₁.heap := fun b u e => by
    rcases shape b u e with ⟨h, rfl⟩ | ⟨rfl, _, rfl⟩
    · obtain ⟨p, hp, rfl⟩ := inT b h; exact hT p hp
    · exact ⟨ha, by rw [List.length_map]; exact hl', vs, _, rv, ha⟩
  have hA : ∀ b, H b ≠ none → b = a ∨ ∃ p ∈ tb, b = p.2 := fun b n => by
    cases e : H b with
    | none => exact (n e).elim
    | some u => rcases shape b u e with ⟨h, _⟩ | ⟨h, _⟩; exact .inr (inT b h); exact .inl h
  have hK : ∀ b, H b ≠ none → K.lookup b = none := fun b n => by
    cases e : H b with
    | none => exact (n e).elim
    | some u =>
      rcases shape b u e with ⟨h, _⟩ | ⟨rfl, h, _⟩
      · obtain ⟨p, hp, rfl⟩ := inT b h; exact nT p hp
      · exact h
  obtain ⟨kin, nsb, e0, TB⟩ := ground_core (P := P) (w := w) KX hns hb hbb hlim hg hT C hbm ha H hok hA hK
  -- the world: the script alone
  let F0 : Hp := fun b => if b = a ∧ K.lookup a = none then some (.frz { cls := .type "list", data := .seq vs.toArray } (.lst (ns.map V.int))) else none
  have sm : Same F0 H := fun b u e => by
    have e : (if b = a ∧ K.lookup a = none then some (HO.frz { cls := .type "list", data := .seq vs.toArray } (.lst (ns.map V.int))) else none) = some u := e
    split at e
    · rename_i h
      show (if b ∈ tabs then _ else _) = _
      rw [if_neg (by rw [h.1]; exact ntab), if_pos h]; exact e
    · cases e
  have hSF : SqL K F0 a (ns.map V.int) := by
    cases hk : K.lookup a with
    | some o =>
      have e := KX a o hk
      rw [ha] at e; cases e
      exact .inr ⟨_, vs.toArray, _, hk, rfl, rfl, rfl, by rw [List.size_toArray, lenV]; exact hl', by simpa using rv⟩
    | none => exact .inl (.inr ⟨{ cls := .type "list", data := .seq vs.toArray }, if_pos ⟨rfl, hk⟩⟩)
  have pn : PenOk ⟨F0, none, ⟨tabs, tq⟩⟩ H none := ⟨rfl, fun Pt hPt => ⟨by
    show (if Pt = a ∧ K.lookup a = none then some _ else none) = none
    exact if_neg fun z => ntab (by rw [← z.1]; exact hPt), ⟨#[], Htab Pt hPt, by simp [TriplesOk]⟩, fun u hu ps hps pos cv hc => by
      rw [Htab Pt hPt] at hps; cases hps; simp [codeAmong] at hc⟩⟩
  obtain ⟨π, hπ⟩ := hμ ns hl hbits
  refine codeAny_mono ((F _ kin nsb TB).run callerA [] s₁ H ⟨[.ref a], []⟩ [.ref a] [.ref a] ⟨F0, none, ⟨tabs, tq⟩⟩ [.scr ns] none (fun v _ => v = .bl true) (fun _ _ _ => False) hr rfl e0 (hbind s₁ (.ref a)) (.cons rfl .nil) (.cons (.scr hSF hl) .nil) rfl rfl sm pn (by
    rw [hπ]; intro W' H' v _ _ _ r; cases r with | val r => cases r; rfl)) fun r s' h => ?_
  cases r with
  | error e => obtain ⟨_, _, _, _, _, _, _, _, _, _, _, _, z⟩ := h; exact z.elim
  | ok fl =>
    cases fl with
    | next => exact False.elim h
    | brk => exact False.elim h
    | cont => exact False.elim h
    | ret u =>
      obtain ⟨v, H', os, bare, un, hok', r', q⟩ := h
      have q : v = .bl true := q
      subst q
      obtain rfl : u = Value.bool true := r'
      have key : ∀ b o, b ∉ tabs → s₁.heap.get? b = some o → s'.heap.get? b = some o := fun b o nb e => by
        cases q : H b with
        | none => exact un.keep b o e q (fun z => nomatch z) (fun z => nomatch z)
        | some u =>
          rcases shape b u q with ⟨h, _⟩ | ⟨rfl, _, rfl⟩
          · exact absurd h nb
          · obtain ⟨e1, _⟩ := hok b _ q
            obtain ⟨e2, _⟩ := hok' b _ (un.frzs b _ _ q)
            rw [e] at e1; cases e1; exact e2
      have grown : ∀ p ∈ tb, ∃ more : Array Value, s'.heap.get? p.2 = some { cls := .none, data := .fields more } := fun p hp => by
        obtain ⟨more, z⟩ := un.tbls p.2 #[] (Htab _ (List.mem_map.mpr ⟨p, hp, rfl⟩))
        exact ⟨_, hok' p.2 _ z⟩
      refine ⟨rfl, ⟨fun b o e => ?_, fun b o e => ?_⟩, os, bare⟩
      · by_cases hb : b ∈ tabs
        · obtain ⟨p, hp, rfl⟩ := inT b hb
          obtain ⟨more, hm⟩ := grown p hp
          rw [hT p hp] at e; cases e
          exact .inr (.inl ⟨((C p hp).tab (hT p hp)).isCodeTable, rfl, #[], more, rfl, by rw [Array.empty_append]; exact hm⟩)
        · exact .inl (key b o hb e)
      · by_cases hb : b ∈ tabs
        · obtain ⟨p, hp, rfl⟩ := inT b hb
          obtain ⟨more, hm⟩ := grown p hp
          exact ⟨_, hm⟩
        · exact ⟨o, key b o hb e⟩
end
/-- the table of the code of the def that is called nm is empty -/
def TabOf (K : PySem.W.Frag) (mg : Str → Option Value) (h : Heap) (nm : Str) : Prop := ∀ (f c P : Addr) (o : Obj) (fd : FuncData) (e : Value) (dd : Option Addr) (vs : Array Value) (sl : Array (Option Value)), mg nm = some (.ref f) → K.lookup f = some o → o.data = .func fd → fd.code = .ref c → K.lookup c = some ⟨e, dd, .fields vs, sl⟩ → vs[11]? = some (.ref P) →
  h.get? P = some { cls := .none, data := .fields #[] }
theorem walkG {l : PySem.W.OpenLaw} {k : Nat} {q : Program} {loose : List Str} {XP : (Str → Option Value) → Heap → Prop} {YP : World → Heap → Prop} {d : DefRec} {K : Params → PySem.W.Frag} {x : Str} (names : List Str)
    (hn : l.most = some 63) (hdf : d.params.defaults = []) (hr : Room k callerA) (hrec : ∀ nm ∈ names, ((recsOf q).any fun e => e.name == nm) = true) (hY : ∀ (w : World) (h : Heap), YP w h → (K w.params).In h)
    (F : ∀ (w : World) (mg : Str → Option Value) (fa : Addr) (h : Heap), YP w h → (K w.params).In h → h.Ns mainGlobals mg → mg d.name = some (.ref fa) → (∀ nm ∈ names, TabOf (K w.params) mg h nm) →
      ∃ (fd : FuncData) (tb : List (Addr × Addr)) (tq : Addr → Option Str) (μ : Mu), (∀ p ∈ tb, h.get? p.2 = some { cls := .none, data := .fields #[] }) ∧ (∀ p ∈ tb, (K w.params).lookup p.2 = none) ∧ (∀ p ∈ tb, PySem.W.CodeHd h p.1 p.2) ∧ (∀ (s : Shared) (u : Value), BindsTo s fd ⟨[u], []⟩ [(x, u)]) ∧ Holds μ ∧
        ∀ base : Heap, (K w.params).In base → base.Ns mainGlobals mg → (∀ p ∈ tb, GxR.TabB base mg p.1 p.2) → FnG l.prog w (K w.params) mg base ⟨tb.map (·.2), tq⟩ k fa fd [x] μ) :
    PySem.W.WalkO q loose XP YP l.row.toRowW d [] (fun f vs => PySem.call f vs) := by
  refine Att.attach_callB hn hdf fun w s₀ s₁ mg mb fa o pm cd doc a vs ns G Y ho hd hcd hmg hobj hints hlen hbits hg => ?_
  have KX := hY w _ Y
  have own : ∀ nm ∈ names, TabOf (K w.params) mg s₁.heap nm := fun nm hnm f c P o1 fd1 e dd vs1 sl k0 k1 k2 k3 k4 k5 => by
    obtain ⟨dL, hm, hn1⟩ := List.any_eq_true.mp (hrec nm hnm)
    have hn2 : dL.name = nm := beq_iff_eq.mp hn1
    obtain ⟨a', o', fd', c', P', h1, h2, h3, h4, h5, h6⟩ := G.T.tab dL hm
    rw [hn2, k0] at h1; cases h1
    have g1 := KX _ _ k1
    rw [g1] at h2; cases h2
    rw [k2] at h3; cases h3
    rw [k3] at h4; cases h4
    obtain ⟨⟨oc, vc, e1, _, e3, e4⟩, hP⟩ := h6
    have g2 := KX _ _ k4
    rw [g2] at e1; cases e1
    cases e3
    rw [k5] at e4; cases e4
    exact hP
  obtain ⟨fd, tb, tq, μ, hT, nT, C, hb, hμ, hF⟩ := F w mg fa _ Y KX G.T.g hmg own
  exact law_callG KX G.T.g G.T.b G.T.builtins G.T.nolimit hg hT nT C G.T.bmain hobj hints hlen hbits hr hF hb hμ
end DL

set_option maxRecDepth 100000
set_option maxHeartbeats 8000000
namespace DL
open PySem PySem.Spec PyProof.Rows L2
section
variable {X : Cx} {tb : Tb} {B : WX} {M : Md} {W0 : Wd} {H0 : Hp}
/-! ### a < b < c -/
def eChain (o1 o2 : Dv → Dv → Option Dv) (f g h : SE Dv) : SE Dv := fun ρ π => (f ρ π).bind fun x π1 => (g ρ π1).bind fun y π2 => match o1 x y with
  | some (.val (.bool true)) => (h ρ π2).bind fun z π3 => (match o2 y z with
    | some w => .ok w π3
    | none => .bad)
  | some (.val (.bool false)) => .ok (.val (.bool false)) π2
  | _ => .bad
theorem chain_imp {o1 o2 : Dv → Dv → Option Dv} {f g h : SE Dv} : ∀ σ H Q, tE M B (eChain o1 o2 f g h) σ H Q → tChain (rD M o1) (rD M o2) (tE M B f) (tE M B g) (tE M B h) σ H Q := by
  rintro σ H Q ⟨W, ρ, π, st, p⟩
  refine ⟨W, ρ, π, st, p.bind fun x π1 W1 H1 v s1 pn1 sm1 r1 p1 => ⟨W1, ρ, π1, st.step s1 pn1 sm1, p1.bind fun y π2 W2 H2 u s2 pn2 sm2 r2 p2 => ?_⟩⟩
  split at p2
  · rename_i q
    refine ⟨W2, x, y, _, sm2, r1.step s2, r2, q, fun v' H' W' s3 pn3 sm3 r3 => ?_⟩
    cases r3 with | val r3 => cases r3 with | bl =>
      refine ⟨true, rfl, ?_⟩
      rw [if_pos rfl]
      refine ⟨W', ρ, π2, ((st.step s1 pn1 sm1).step s2 pn2 sm2).step s3 (pn3 π2 pn2) sm3, Post.bind (Post.step p2 s3) fun z π3 W3 H3 t s4 pn4 sm4 r4 p4 => ?_⟩
      cases q2 : o2 y z with
      | none => simp only [q2] at p4; exact p4.elim
      | some w =>
        simp only [q2] at p4
        exact ⟨W3, y, z, w, sm4, (r2.step s3).step s4, r4, q2, fun v' H' W' s5 pn5 sm5 r5 => p4 W' H' v' s5 (pn5 π3 pn4) sm5 r5⟩
  · rename_i q
    refine ⟨W2, x, y, _, sm2, r1.step s2, r2, q, fun v' H' W' s3 pn3 sm3 r3 => ?_⟩
    cases r3 with | val r3 => cases r3 with | bl =>
      refine ⟨false, rfl, ?_⟩
      rw [if_neg Bool.false_ne_true]
      exact p2 W' H' _ s3 (pn3 π2 pn2) sm3 (.val (.bl false))
  · exact p2.elim
theorem e_chain {a b c : Expr} {op op' : CmpOp} {pos : Pos} {o1 o2 : Dv → Dv → Option Dv} {f g h : SE Dv} (ho : OpR X (compareOp op) (rD M o1)) (ho' : OpR X (compareOp op') (rD M o2)) (ha : PE X a (tE M B f)) (hb : PE X b (tE M B g)) (hc : PE X c (tE M B h))
    (hm : lastMarks [op, op'] [b, c] = false := by with_unfolding_all rfl) : PE X (.Compare a [op, op'] [b, c] pos) (tE M B (eChain o1 o2 f g h)) := PE.weak (pe_chain ho ho' ha hb hc hm) chain_imp
theorem t_chain {a b c : Expr} {op op' : CmpOp} {pos : Pos} {o1 o2 : Dv → Dv → Option Dv} {f g h : SE Dv} (ho : OpR X (compareOp op) (rD M o1)) (ho' : OpR X (compareOp op') (rD M o2)) (ha : PE X a (tE M B f)) (hb : PE X b (tE M B g)) (hc : PE X c (tE M B h))
    (hm : lastMarks [op, op'] [b, c] = false := by with_unfolding_all rfl) : PT X (.Compare a [op, op'] [b, c] pos) (tT M B (asB (eChain o1 o2 f g h))) := PT.weak (pt_chain ho ho' ha hb hc hm) (asB_imp chain_imp)
def eNeg (f : SE Dv) : SE Dv := fun ρ π => (f ρ π).bind fun d π1 => match d with
  | .val (.int i) => .ok (.val (.int (-i))) π1
  | _ => .bad
theorem e_neg {a : Expr} {pos : Pos} {f : SE Dv} (ha : PE X a (tE (Cx.md X tb) B f)) : PE X (.UnaryOp .USub a pos) (tE (Cx.md X tb) B (eNeg f)) := by
  refine PE.weak (pe_un un_neg ha) ?_
  rintro σ H Q ⟨W, ρ, π, st, p⟩
  refine ⟨W, ρ, π, st, p.bind fun d π1 W1 H1 v s1 pn1 sm1 r1 p1 => ?_⟩
  split at p1
  · cases rv_int (X := X) r1
    exact ⟨_, rfl, p1.now pn1 sm1 (.val (.int _))⟩
  · exact p1.elim
/-! ### a, b = .. -/
def sPar (i j : Nat) (g : SE (List Dv)) : SS := fun ρ π => thenS (g ρ π) ρ fun ds π1 => match ds with
  | [d, e] => .nx ((ρ.set i (.val d)).set j (.val e)) π1
  | _ => .bad
theorem s_par (i j : Nat) {x y : Str} {a b : Expr} {px py pt : Pos} {kt k2 : Nat} {pt2 pos : Pos} {g : SE (List Dv)} (hc : X.calm = true) (hN : X.N.Nodup) (ha : PA X [a, b] (tA (Cx.md X tb) B g)) (hi : X.N[i]? = some x := by rfl) (hj : X.N[j]? = some y := by rfl) (hij : i ≠ j := by decide)
    (hx : X.env.scope.names.lookup x = some .local := by rfl) (hy : X.env.scope.names.lookup y = some .local := by rfl)
    (hw : swappedStores [.Tuple [.Name x px, .Name y py] kt pt] (.Tuple [a, b] k2 pt2) X.env = pure (some [x, y]) := by rfl) (hs : swapsWithSole [.Tuple [.Name x px, .Name y py] kt pt] (.Tuple [a, b] k2 pt2) pos.line X.env = pure false := by rfl) :
    PS X (.Assign [.Tuple [.Name x px, .Name y py] kt pt] (.Tuple [a, b] k2 pt2) pos) (tS (Cx.md X tb) W0 H0 B (sPar i j g)) := by
  refine PS.weak (ps_par hc hN hi hj hij hx hy ha hw hs) ?_
  rintro D σ H ⟨W, ρ, π, st, p⟩
  refine ⟨W, ρ, π, st.st, thenS_post st p fun ds π1 W1 H1 vs s1 r1 rv p1 => ?_⟩
  split at p1
  · obtain ⟨v, w, rfl, q1, q2⟩ := rvl2 rv
    exact ⟨v, w, rfl, p1 W1 H1 _ ((r1.set i q1).set j q2) (Same.refl _)⟩
  · exact p1.elim
theorem PG.or {X : Cx} {t : Expr} {g h : TG} (a : PG X t g) (b : PG X t h) : PG X t (fun v σ H Q => g v σ H Q ∨ h v σ H Q) := ⟨fun pins s σ H v u Q I r q => by
  rcases q with q | q
  · exact a.run pins s σ H v u Q I r q
  · exact b.run pins s σ H v u Q I r q⟩
def gTL (n : Nat) (u : List PyData → List Sv → Option (List Sv)) : PyData → List Sv → Option (List Sv)
  | .tuple ds, ρ => if ds.length = n then u ds ρ else none
  | .list ds, ρ => if ds.length = n then u ds ρ else none
  | _, _ => none
theorem pg_tl {es : List Expr} {k : Nat} {t : TGs} {n : Nat} (hc : X.calm = true) (h : PGs X es t) (hn : (assignEach es X.env).length = n := by rfl) (hst : (assignEach es X.env).findIdx? (·.1) = none := by rfl) :
    PG X (.Tuple es k pos) (fun v σ H Q => gTup X.K n t v σ H Q ∨ gLst X.K n t v σ H Q) := PG.or (pg_tup hc h hn hst) (pg_lst hc h hn hst)
theorem gd_tl {K : PySem.W.Frag} {n : Nat} {gs : TGs} {is : List Nat} {u : List PyData → List Sv → Option (List Sv)} (h : GDs gs is u) : GD (fun v σ H Q => gTup K n gs v σ H Q ∨ gLst K n gs v σ H Q) is (gTL n u) := ⟨fun {M W H ρ ρ' π σ x d Q} st r e k => by
  cases r with
  | @tup a o xs ds ea po z ra =>
    have e : (if ds.length = n then u ds ρ else none) = some ρ' := e
    split at e
    · rename_i hl
      exact .inl ⟨a, xs, rfl, SqT_frz ⟨_, ea, po⟩ st.same, ra.length.trans hl, h.run st ra e k⟩
    · cases e
  | @lst a xs ds ea z ra =>
    have e : (if ds.length = n then u ds ρ else none) = some ρ' := e
    split at e
    · rename_i hl
      exact .inr ⟨a, xs, rfl, SqL.of (st.same _ _ ea), ra.length.trans hl, h.run st ra e k⟩
    · cases e
  | non => cases e
  | bl _ => cases e
  | int _ => cases e
  | str _ => cases e⟩
def sUnp (tg : PyData → List Sv → Option (List Sv)) (f : SE Dv) : SS := fun ρ π => thenS (f ρ π) ρ fun d π1 => match d with
  | .val d => (match tg d ρ with
    | some ρ' => .nx ρ' π1
    | none => .bad)
  | _ => .bad
theorem s_unp {t e : Expr} {pos : Pos} {f : SE Dv} {g : TG} {is : List Nat} {tg : PyData → List Sv → Option (List Sv)} (he : PE X e (tE (Cx.md X tb) B f)) (hg : PG X t g) (gd : GD g is tg) (hs : swapsWithSole [t] e pos.line X.env = pure false := by rfl) (hw : swappedStores [t] e X.env = pure none := by rfl)
    (h1 : (assignEach [t] X.env).map (·.2) = [assign t X.env] := by rfl) : PS X (.Assign [t] e pos) (tS (Cx.md X tb) W0 H0 B (sUnp tg f)) := by
  refine PS.weak (ps_asg he hg hs hw h1) ?_
  rintro D σ H ⟨W, ρ, π, st, p⟩
  refine ⟨W, ρ, π, st.st, thenS_post st p fun d π1 W1 H1 v s1 r1 rv p1 => ?_⟩
  cases rv with
  | pen _ => exact p1.elim
  | scr _ _ => exact p1.elim
  | err _ _ => exact p1.elim
  | dct _ _ _ => exact p1.elim
  | fn _ => exact p1.elim
  | @val v d rd =>
    cases q : tg d ρ with
    | none => simp only [q] at p1; exact p1.elim
    | some ρ' =>
      simp only [q] at p1
      exact gd.run r1.st rd q fun σ4 st4 o4 _ _ => p1 W1 H1 σ4 ⟨st4, r1.go, fun j a es h1 h2 => by
        obtain ⟨a1, a2⟩ := o4 j es h1
        rw [a2] at h2
        exact r1.new j a es a1 h2⟩ (Same.refl _)
/-! ### a def as it stands, with its promise -/
structure At (K : PySem.W.Frag) (mg : Str → Option Value) (x : Str) (st : Stmt) (ps : List Str) (f : Addr) (fd : FuncData) : Prop where
  F : Fun K x x st f fd
  g : mg x = some (.ref f)
  b : Binds K fd ps []
structure Def (P : Program) (w : World) (K : PySem.W.Frag) (mg : Str → Option Value) (base : Heap) (tb : Tb) (k : Nat) (x : Str) (ps : List Str) (μ : Mu) : Prop where
  ex : ∃ f fd, FnG P w K mg base tb k f fd ps μ ∧ mg x = some (.ref f) ∧ PySem.W.keepIn K (.ref f) = true ∧ Binds K fd ps []
theorem e_fn {k n : Nat} {x : Str} {p pos : Pos} {e : Expr} {es : List Expr} {g : SE (List Dv)} {ps : List Str} {μ : Mu} (D : Def X.prog X.w X.K X.mg X.base tb k x ps μ) (hr : Room n X.A) (gd : X.A.guards = some []) (tk : Takes X B) (ha : PA X (e :: es) (tA (Cx.md X tb) B g)) (hl : ∀ ρ π ds π', g ρ π = .ok ds π' → ds.length = ps.length)
    (hk : k ≤ n := by first | decide | omega) (hg : Gl X x := by rfl) (hdb : (x == ("__debug__" : Str)) = false := by decide) (he : starEach (e :: es) X.env = (false, eval e X.env) :: starEach es X.env := by rfl) (hpl : (backTo pos (starEach es X.env)).any (·.1) = false := by rfl) :
    PE X (.Call (.Name x p) (e :: es) [] pos) (tE (Cx.md X tb) B (eCall μ g)) := by
  obtain ⟨f, fd, F, hm, hkp, hb⟩ := D.ex
  exact e_call (F.mono hk) hr gd hm hkp hb tk ha hl hg hdb he hpl
end
end DL
namespace DL
open PySem PySem.Spec PyProof.Rows L2
/-- a code object's places, as the head has written them -/
def codeOk (vs : Array Value) (c P : Addr) : Bool :=
  (match vs.getD 18 .none with | .str _ _ => true | _ => false) && (match vs.getD 7 .none with | .int _ _ => true | _ => false) &&
      (match vs.getD 9 .none with | .bool _ => true | _ => false) && (match vs.getD 10 .none with | .int _ _ => true | _ => false) && c != P
theorem codeHd_of {K : PySem.W.Frag} {h : Heap} {c P : Addr} {cf : Option Addr} {vs : Array Value} {sl : Array (Option Value)} (X : K.In h) (e : K.lookup c = some ⟨.type "code", cf, .fields vs, sl⟩) (e11 : (vs[11]? : Option Value) = some (.ref P)) (q : codeOk vs c P = true) : PySem.W.CodeHd h c P := by
  refine PySem.W.codeHd_of_K X ?_
  unfold PySem.W.codeHdIn
  rw [e]
  unfold codeOk at q
  simp only [e11, beq_self_eq_true, Bool.true_and]
  exact q
end DL

set_option maxRecDepth 100000
set_option maxHeartbeats 8000000
namespace DL
open PySem PySem.Spec PyProof.Rows L2
section
variable {X : Cx} {tb : Tb} {B : WX} {W0 : Wd} {H0 : Hp}

/-! ### a text's slice with a stride -/
def sliceT (x : Str) (lo hi : Option Int) (k : Int) : Str :=
  if (k == 1 && (Builtin.Str.strSliceIndices lo hi k x.length).length == x.length) = true then x else ⟨((Builtin.Str.strSliceIndices lo hi k x.length).filterMap (x.cps[·]?)).toArray⟩
theorem sliceT_le (x : Str) (lo hi : Option Int) {k : Int} (h0 : k ≠ 0) : (sliceT x lo hi k).length ≤ x.length := by
  unfold sliceT
  split
  · exact Nat.le_refl _
  · show (List.toArray (List.filterMap _ _)).size ≤ _
    rw [List.size_toArray]
    exact Nat.le_trans (List.length_filterMap_le _ _) (sliceIndicesBy_le _ _ _ h0 x.length)
def tSlK (te : TE) (tl th tk : TO) : TE := fun σ H Q => te σ H fun x H1 => tl σ H1 fun l H2 => th σ H2 fun u H3 => tk σ H3 fun k H4 => ∃ z i, x = .str z ∧ k = some i ∧ i ≠ 0 ∧ z.length ≤ sizeLine ∧ Q (.str (sliceT z l u i)) H4
theorem pe_sliceK {e st : Expr} {lo hi : Option Expr} {p2 pos : Pos} {te : TE} {tl th tk : TO} (he : PE X e te) (hl : PO X lo tl) (hu : PO X hi th) (hk : PO X (some st) tk) (ht : ∀ o r, letTemporaryGo e o r = pure () := by intro _ _; rfl) : PE X (.Subscript e (.Slice lo hi (some st) p2) pos) (tSlK te tl th tk) := by
  refine ⟨fun pins s σ H Q I h => ?_⟩
  refine wpAny_Subscript_Slice_step (T := "str") F.slot_str_getitem.lookup ?_ ht
  refine wpAny_mono (he.run pins s σ H _ I h) ?_ fun _ _ z => z
  rintro v s1 ⟨x, H1, I1, r1, q1⟩
  refine wpAny_Slice ?_
  refine wpAny_mono (hl.run pins s1 σ H1 _ I1 q1) ?_ fun _ _ z => z
  rintro vl s2 ⟨l, H2, I2, pl, q2⟩
  refine wpAny_mono (hu.run pins s2 σ H2 _ I2 q2) ?_ fun _ _ z => z
  rintro vu s3 ⟨u, H3, I3, pu, q3⟩
  refine wpAny_mono (hk.run pins s3 σ H3 _ I3 q3) ?_ fun _ _ z => z
  rintro vk s4 ⟨k, H4, I4, pk, z, i, rfl, rfl, hi0, hz, q⟩
  obtain ⟨t, rfl⟩ := r1
  obtain ⟨l', rfl, rfl⟩ := IsPart.raw pl
  obtain ⟨u', rfl, rfl⟩ := IsPart.raw pu
  cases pk with
  | int _ tk =>
    refine ⟨typeIs_str _ _ _, ?_⟩
    have I5 := I4.kept (t' := s4.toks) (h' := s4.heap.push { cls := .type "slice", data := .fields #[partValue l', partValue u', .int i tk] }) fun b ob hb => Heap.get?_push_of_some _ hb
    have h0 : (((some (i, tk)).map (·.1)).getD 1 == (0 : Int)) = false := by simpa using hi0
    refine wpAny_getItem_str_slice (l := l') (u := u') (st := some (i, tk)) ⟨_, Heap.get?_push_size _ rfl, rfl, rfl⟩ h0 ?_
    have hle := sliceT_le z (l'.map (·.1)) (u'.map (·.1)) hi0
    have hle := Nat.le_trans hle hz
    unfold sliceT at q hle
    show Made.post (if (i == 1 && (Builtin.Str.strSliceIndices (l'.map (·.1)) (u'.map (·.1)) i z.length).length == z.length) = true then Made.val (.str z t)
      else Made.str ⟨((Builtin.Str.strSliceIndices (l'.map (·.1)) (u'.map (·.1)) i z.length).filterMap (z.cps[·]?)).toArray⟩) _ _
    by_cases c : (i == 1 && (Builtin.Str.strSliceIndices (l'.map (·.1)) (u'.map (·.1)) i z.length).length == z.length) = true
    · rw [if_pos c] at q ⊢
      exact ⟨.str z, H4, I5, ⟨t, rfl⟩, q⟩
    · rw [if_neg c] at q hle ⊢
      exact ⟨hle, .str _, H4, I5.tok _, ⟨_, rfl⟩, q⟩
def dSlK (lo hi : Option Int) (k : Option Int) : Dv → Option Dv
  | .val (.str x) => (match k with
    | some i => if x.length ≤ 16777216 ∧ i ≠ 0 then some (.val (.str (sliceT x lo hi i))) else none
    | none => none)
  | _ => none
def eSliceK (f : SE Dv) (l u k : SE (Option Int)) : SE Dv := fun ρ π => (f ρ π).bind fun d π1 => (l ρ π1).bind fun lo π2 => (u ρ π2).bind fun hi π3 => (k ρ π3).bind fun st π4 => match dSlK lo hi st d with
  | some z => .ok z π4
  | none => .bad
theorem e_sliceK {e st : Expr} {lo hi : Option Expr} {p2 pos : Pos} {f : SE Dv} {l u k : SE (Option Int)} (he : PE X e (tE (Cx.md X tb) B f)) (hl : PO X lo (tO (Cx.md X tb) B l)) (hu : PO X hi (tO (Cx.md X tb) B u)) (hk : PO X (some st) (tO (Cx.md X tb) B k)) (ht : ∀ o r, letTemporaryGo e o r = pure () := by intro _ _; rfl) :
    PE X (.Subscript e (.Slice lo hi (some st) p2) pos) (tE (Cx.md X tb) B (eSliceK f l u k)) := by
  refine PE.weak (pe_sliceK he hl hu hk ht) ?_
  rintro σ H Q ⟨W, ρ, π, st, p⟩
  refine ⟨W, ρ, π, st, p.bind fun d π1 W1 H1 v s1 pn1 sm1 r1 p1 => ⟨W1, ρ, π1, st.step s1 pn1 sm1, p1.bind fun a π2 W2 H2 a' s2 pn2 sm2 r2 p2 => ⟨W2, ρ, π2, (st.step s1 pn1 sm1).step s2 pn2 sm2, p2.bind fun b π3 W3 H3 b' s3 pn3 sm3 r3 p3 => ⟨W3, ρ, π3, ((st.step s1 pn1 sm1).step s2 pn2 sm2).step s3 pn3 sm3, p3.bind fun c π4 W4 H4 c' s4 pn4 sm4 r4 p4 => ?_⟩⟩⟩⟩
  subst r2 r3 r4
  cases q : dSlK a' b' c' d with
  | none => simp only [q] at p4; exact p4.elim
  | some z =>
    simp only [q] at p4
    unfold dSlK at q
    split at q
    · rename_i x
      split at q
      · rename_i i
        split at q
        · rename_i hh
          cases q
          cases rv_str r1
          exact ⟨x, i, rfl, rfl, hh.2, line_le.mp hh.1, p4.now pn4 sm4 (.val (.str _))⟩
        · cases q
      · cases q
    · cases q
/-! ### a dict of the module, text keys and texts -/
structure GDct (K : PySem.W.Frag) (w : World) (mg : Str → Option Value) (n : Str) (kvs : List (Str × Str)) : Prop where
  ex : ∃ d, mg n = some (.ref d) ∧ ∀ k v, kvs.lookup k = some v → KDct K w d k (.str v)
theorem GDct.mk3 {K : PySem.W.Frag} {w : World} {mg : Str → Option Value} {n : Str} {d : Addr} {es : Array DictEntry} {m : Nat} (hm : mg n = some (.ref d)) (hl : K.lookup d = some ⟨.type "dict", none, .dict es m, #[]⟩) (hk : PySem.W.KeysLit w.params es.toList) {kvs : List (Str × Str)}
    (h : ∀ kv ∈ kvs, ∃ t, PySem.W.nsIn K d kv.1 = some (some (.str kv.2 t))) : GDct K w mg n kvs := by
  refine ⟨d, hm, fun k v e => ?_⟩
  have mem : ∀ {l : List (Str × Str)}, l.lookup k = some v → (k, v) ∈ l := by
    intro l
    induction l with
    | nil => intro e; cases e
    | cons p l ih =>
      intro e
      obtain ⟨a, b⟩ := p
      rw [List.lookup_cons] at e
      cases q : k == a with
      | true => rw [q] at e; cases e; rw [beq_iff_eq.mp q]; exact List.mem_cons_self
      | false => rw [q] at e; exact List.mem_cons_of_mem _ (ih e)
  obtain ⟨t, ht⟩ := h _ (mem e)
  exact ⟨es, m, _, hl, hk, ht, ⟨t, rfl⟩⟩
def eGdict (kvs : List (Str × Str)) (f : SE Dv) : SE Dv := fun ρ π => (f ρ π).bind fun d π1 => match d with
  | .val (.str x) => (match kvs.lookup x with
    | some v => .ok (.val (.str v)) π1
    | none => .bad)
  | _ => .bad
theorem e_gdict {n : Str} {kvs : List (Str × Str)} {e : Expr} {p pos : Pos} {f : SE Dv} (D : GDct X.K X.w X.mg n kvs) (he : PE X e (tE (Cx.md X tb) B f)) (hg : Gl X n := by rfl) (hd : (n == ("__debug__" : Str)) = false := by decide) (hs : PlainIx e := by exact fun _ _ => rfl) :
    PE X (.Subscript (.Name n p) e pos) (tE (Cx.md X tb) B (eGdict kvs f)) := by
  obtain ⟨d, hm, hk⟩ := D.ex
  refine PE.weak (pe_ix ix_kdict (pe_glob (v := .ref d) hg hm rfl hd) he hs) ?_
  rintro σ H Q ⟨W, ρ, π, st, pp⟩
  refine ⟨W, ρ, π, st, pp.bind fun x π1 W1 H1 v s1 pn1 sm1 r1 p1 => ?_⟩
  cases r1 with
  | pen _ => exact p1.elim
  | scr _ _ => exact p1.elim
  | err _ _ => exact p1.elim
  | dct _ _ _ => exact p1.elim
  | fn _ => exact p1.elim
  | val r => cases r with
    | str z =>
      cases q : kvs.lookup z with
      | none => simp only [q] at p1; exact p1.elim
      | some y =>
        simp only [q] at p1
        exact ⟨d, z, .str y, rfl, rfl, hk z y q, p1.now pn1 sm1 (.val (.str _))⟩
    | non => exact p1.elim
    | bl _ => exact p1.elim
    | int _ => exact p1.elim
    | lst _ _ _ => exact p1.elim
    | tup _ _ _ => exact p1.elim
end
end DL

set_option maxRecDepth 100000
set_option maxHeartbeats 8000000
namespace DL
open PySem PySem.Spec PyProof.Rows L2
section
variable {X : Cx} {tb : Tb} {B : WX} {W0 : Wd} {H0 : Hp}
/-! ### bits -/
def dBand : Dv → Dv → Option Dv
  | .val (.int i), .val (.int j) => some (.val (.int (Builtin.bitAnd i j)))
  | _, _ => none
def dShr : Dv → Dv → Option Dv
  | .val (.int i), .val (.int j) => if 0 ≤ j then some (.val (.int (i / 2 ^ j.toNat))) else none
  | _, _ => none
theorem o_and : OpR X (binaryOp .BitAnd) (rD (Cx.md X tb) dBand) := by
  rintro pins s σ H x y v u Q I rx ry ⟨W, d, e, z, sm, rd, re, hz, q⟩
  unfold dBand at hz
  split at hz
  · cases hz; cases rv_int rd; cases rv_int re
    exact op_and pins s σ H _ _ v u Q I rx ry ⟨_, _, rfl, rfl, stay q sm (.val (.int _))⟩
  · cases hz
theorem o_shr : OpR X (binaryOp .RShift) (rD (Cx.md X tb) dShr) := by
  rintro pins s σ H x y v u Q I rx ry ⟨W, d, e, z, sm, rd, re, hz, q⟩
  unfold dShr at hz
  split at hz
  · split at hz
    · rename_i hl
      cases hz; cases rv_int rd; cases rv_int re
      exact op_shr pins s σ H _ _ v u Q I rx ry ⟨_, _, rfl, rfl, hl, stay q sm (.val (.int _))⟩
    · cases hz
  · cases hz
def eBitLen (f : SE Dv) : SE Dv := fun ρ π => (f ρ π).bind fun d π1 => match d with
  | .val (.int i) => .ok (.val (.int (Builtin.Int.intBits i : Nat))) π1
  | _ => .bad
theorem e_bitlen {o : Expr} {apos cpos : Pos} {f : SE Dv} (ho : PE X o (tE (Cx.md X tb) B f)) (hbase : attributeBase o "bit_length" X.env (eval o X.env) = eval o X.env := by rfl) (hline : (apos.endLine == cpos.line) = true := by rfl) : PE X (.Call (.Attribute o "bit_length" apos) [] [] cpos) (tE (Cx.md X tb) B (eBitLen f)) := by
  refine PE.weak (pe_bits ho hbase hline) ?_
  rintro σ H Q ⟨W, ρ, π, st, p⟩
  refine ⟨W, ρ, π, st, p.bind fun d π1 W1 H1 v s1 pn1 sm1 r1 p1 => ?_⟩
  cases r1 with
  | pen _ => exact p1.elim
  | scr _ _ => exact p1.elim
  | err _ _ => exact p1.elim
  | dct _ _ _ => exact p1.elim
  | fn _ => exact p1.elim
  | val r => cases r with
    | int i => exact ⟨i, rfl, p1.now pn1 sm1 (.val (.int _))⟩
    | non => exact p1.elim
    | bl _ => exact p1.elim
    | str _ => exact p1.elim
    | lst _ _ _ => exact p1.elim
    | tup _ _ _ => exact p1.elim
/-! ### <, of integers or of tuples of integers -/
def dLtG : Dv → Dv → Option Dv
  | .val (.int i), .val (.int j) => some (.val (.bool (decide (i < j))))
  | .val (.tuple xs), .val (.tuple ys) => (match intsOf xs with
    | some a => (match intsOf ys with
      | some b => some (.val (.bool (HT.lexLt a b)))
      | none => none)
    | none => none)
  | _, _ => none
theorem o_ltG (hu : X.A.units + 64 < cLine) : OpR X (compareOp .Lt) (rD (Cx.md X tb) dLtG) := by
  rintro pins s σ H x y v u Q I rx ry ⟨W, d, e, z, sm, rd, re, hz, q⟩
  unfold dLtG at hz
  split at hz
  · cases hz
    exact o_lt pins s σ H x y v u Q I rx ry ⟨W, _, _, _, sm, rd, re, rfl, q⟩
  · rename_i xs ys
    cases ha : intsOf xs with
    | none => rw [ha] at hz; cases hz
    | some a =>
      rw [ha] at hz
      cases hb : intsOf ys with
      | none => simp only [hb] at hz; cases hz
      | some b =>
        simp only [hb] at hz
        cases hz
        obtain ⟨p, vs, rfl, ep, zp, rp⟩ := rv_tup rd
        obtain ⟨p', vs', rfl, ep', zp', rp'⟩ := rv_tup re
        have e1 := ints_v rp ha
        have e2 := ints_v rp' hb
        subst e1 e2
        exact op_ltT (Nat.lt_of_le_of_lt (Nat.le_add_right _ 64) hu) pins s σ H _ _ v u Q I rx ry ⟨p, p', a, b, rfl, rfl, SqT_frz ep sm, SqT_frz ep' sm, stay q sm (.val (.bl _))⟩
  · cases hz
end
end DL

set_option maxRecDepth 100000
set_option maxHeartbeats 2000000
namespace DL
open PySem PySem.Spec PyProof.Rows L2

/-! ### try .. except X as e, the error known behind it -/
theorem track {X : Cx} {pins : List (Addr × Obj)} {σ : L2.St} {H : Hp} {s : Shared} {a : Addr} {o : HO} (I : Inv X pins σ H s) (hn : H a = none) (h0 : X.s_0.heap.get? a = none) (nL : a ≠ X.env.locals)
    (nC : ∀ x c, X.env.cells.lookup x = some c → c ≠ a) (nP : ∀ p ∈ X.pn ++ pins, p.1 ≠ a) (new : ObjOk X.prog X.w (upd H a o) s.heap a o) : Inv X pins σ (upd H a o) s :=
  { I with
    base := { keep := I.base.keep, slot := I.base.slot, there := I.base.there
              free := fun b u q n hx => (upd_ne fun z => by rw [z, h0] at q; cases q).trans (I.base.free b u q n hx)
              tups := fun b xs q => (upd_ne (ne_of_none (I.base.tups b xs q) hn)).trans (I.base.tups b xs q)
              frzs := fun b u v q => (upd_ne (ne_of_none (I.base.frzs b u v q) hn)).trans (I.base.frzs b u v q)
              tbls := fun b ps q => let ⟨m, e⟩ := I.base.tbls b ps q; ⟨m, (upd_ne (ne_of_none e hn)).trans e⟩ }
    free := (upd_ne fun z => nL z.symm).trans I.free
    freeC := fun x c e => (upd_ne (nC x c e)).trans (I.freeC x c e)
    pin := fun p hp => let ⟨e, n, r⟩ := I.pin p hp; ⟨e, (upd_ne (nP p hp)).trans n, r⟩
    hok := I.hok.laidN (fun _ _ e => e) hn new }
/-- into the suite, out of it: nothing pinned for the error -/
theorem inSuite {X : Cx} {pins : List (Addr × Obj)} {σ : L2.St} {H : Hp} {s : Shared} {a : Addr} (I : Inv X pins σ H s) : Inv (X.suite a (X.pn ++ pins)) [] σ H s :=
  ⟨I.ok.suite a _, I.os, I.bare, I.base, I.loc, I.cell, I.free, I.freeC, fun p hp => I.pin p (by rw [List.append_nil] at hp; exact hp), I.hok, I.len⟩
theorem outSuite {X : Cx} {pins ps : List (Addr × Obj)} {σ : L2.St} {H : Hp} {s : Shared} {a : Addr} (ok : X.Ok) (I : Inv (X.suite a (X.pn ++ pins)) ps σ H s) : Inv X pins σ H s :=
  ⟨ok, I.os, I.bare, I.base, I.loc, I.cell, I.free, I.freeC, fun p hp => I.pin p (List.mem_append.mpr (.inl hp)), I.hok, I.len⟩
def shut (D : Ends) (i : Nat) : Ends := { nx := fun τ G => D.nx (τ.set i none) G, rt := D.rt, bk := fun τ G => D.bk (τ.set i none) G, ct := fun τ G => D.ct (τ.set i none) G }
/-- what the clause asks of an error: it is of the class; then the suite, the error known -/
def wKnown (K : PySem.W.Frag) (c : Value) (i : Nat) (ts : TS) (D : Ends) : WX := fun cls d σ H =>
  PySem.W.exmOne K cls c = some true ∧ d = none ∧ ∀ a, H a = none → ts (shut D i) (σ.set i (some (.ref a))) (upd H a (ErO cls a))
section
variable {X : Cx} {x n : Str} {c : Value} {i : Nat} {body suite : List Stmt} {s₁ : Stmt} {p1 p2 p3 : Pos} {tb : WX → TS} {ts : TS}
/-- how the suite ends -/
theorem suite_end {pins : List (Addr × Obj)} {a : Addr} {f : Flow} {s : Shared} {D : Ends} (ok : X.Ok) (hN : X.N.Nodup) (hi : X.N[i]? = some n) (hl : X.env.kindOf n = some .local)
    (h : SP (X.suite a (X.pn ++ pins)) [] (shut D i) f s) : wpAny (model X.prog X.w) X.A (do bindName X.env n .none; unbindBehindTheSuite X.env n p2) (fun _ s' => SP X pins D f s') X.xe s := by
  cases f with
  | next => obtain ⟨τ, G, J, q⟩ := h; exact gone_ok (outSuite ok J) hN hi hl fun s' J' => ⟨_, G, J', q⟩
  | brk => obtain ⟨τ, G, J, q⟩ := h; exact gone_ok (outSuite ok J) hN hi hl fun s' J' => ⟨_, G, J', q⟩
  | cont => obtain ⟨τ, G, J, q⟩ := h; exact gone_ok (outSuite ok J) hN hi hl fun s' J' => ⟨_, G, J', q⟩
  | ret u => obtain ⟨v, τ, G, J, r, q⟩ := h; exact gone_ok (outSuite ok J) hN hi hl fun s' J' => ⟨v, _, G, J', r, q⟩
theorem ps_try_known (hs : X.stack = X.env :: X.outer) (hf : X.env.frame = some X.env.locals) (hex : X.ex = []) (hN : X.N.Nodup) (hi : X.N[i]? = some n) (hl : X.env.kindOf n = some .local) (hc : Names X x c)
    (hb : ∀ (W : WX) (pn : List (Addr × Obj)) (xe : Value → Shared → Prop), Takes (X.tr pn xe) W → PassesOwn (model X.prog X.w) X.A X.env xe → PSs (X.tr pn xe) body (tb W))
    (hsu : ∀ (a : Addr) (pn : List (Addr × Obj)), PSs (X.suite a pn) (s₁ :: suite) ts) :
    PS X (.Try body [.ExceptHandler (some (.Name x p1)) (some n) (s₁ :: suite) p2] [] [] p3) (fun D σ H => tb (wKnown X.K c i ts D) D σ H) := by
  constructor
  intro pins s σ H D I h
  have ok := I.ok
  have frm : X.A.frames = some (X.env :: X.outer) := ok.frames.trans (congrArg some hs)
  apply wpAny_Try_except
  refine wpAny_mono ((hb (wKnown X.K c i ts D) (X.pn ++ pins) _ ?take PassesOwn.looking).run [] s σ H D (I.toTry _) h) (fun f s' q => ?norm) (fun _ _ z => z)
  case norm =>
    cases f with
    | next => obtain ⟨τ, G, J, q⟩ := q; exact wpAny_execs_nil ⟨τ, G, J.ofTry ok, q⟩
    | brk => obtain ⟨τ, G, J, q⟩ := q; exact ⟨τ, G, J.ofTry ok, q⟩
    | cont => obtain ⟨τ, G, J, q⟩ := q; exact ⟨τ, G, J.ofTry ok, q⟩
    | ret u => obtain ⟨v, τ, G, J, r, q⟩ := q; exact ⟨v, τ, G, J.ofTry ok, r, q⟩
  case take =>
    rintro u t ⟨a, B, sI, ps, τ, G, cls, d, rfl, J0, nb, up, sky, na, os, ag, hx, rfl, go⟩
    have J : Inv X pins τ G sI := J0.ofTry ok
    have sky : Sky B (X.env :: X.outer) a (Zc cls none) X.env.locals t.heap := by rw [← hs]; exact sky
    -- it lands
    refine Sky.land Zc.steady frm hf sky fun g fly upg => ?_
    obtain ⟨oe, vs, ge, ze, de⟩ := fly.there
    have apart : a ∉ frs (X.env :: X.outer) := fun hm => by
      obtain ⟨_, ob, eb, nf⟩ := fly.2.2.1.mem hm
      rw [ge] at eb; cases eb
      exact nf _ de
    have nL : a ≠ X.env.locals := fun z => apart (List.mem_filterMap.mpr ⟨X.env, List.mem_cons_self, by rw [hf, z]⟩)
    -- it was not there before
    have n0 : sI.heap.get? a = none := by
      cases e : sI.heap.get? a with
      | none => rfl
      | some o =>
        have z := nb a o e (by rw [hs]; exact apart)
        rw [fly.2.1] at z; cases z
    have nE : X.s_0.heap.get? a = none := by
      cases e : X.s_0.heap.get? a with
      | none => rfl
      | some o =>
        obtain ⟨_, z⟩ := J.base.there a o e (by rw [hex]; exact fun z => nomatch z)
        rw [n0] at z; cases z
    have nP : ∀ p ∈ X.pn ++ pins, p.1 ≠ a := fun p hp z => by
      have e := (J.pin p hp).1
      rw [z, n0] at e; cases e
    have nC : ∀ y b, X.env.cells.lookup y = some b → b ≠ a := fun y b e z => by
      obtain ⟨v, o, q, _⟩ := J.cell y b e
      rw [z, n0] at q; cases q
    have known : ∀ {h2 : Heap}, HandSPX.FlyingZ B (X.env :: X.outer) a (Zc cls none) h2 → t.heap.UpToSlots h2 → Inv X pins τ (upd G a (ErO cls a)) { t with heap := h2 } := fun {h2} fl ut => by
      obtain ⟨o2, v2, g2, z2, d2⟩ := fl.there
      exact track (J.landed nb fl.1 (up.trans ut) os ag) na nE nL nC nP (erO_ok g2 z2 d2)
    have asked : Inv (X.suite a (X.pn ++ pins)) [] τ (upd G a (ErO cls a)) { t with heap := g } := inSuite (known fly upg)
    have looks : PySem.W.Looks (model X.prog X.w) g (excMatches (.ref a) c) true :=
      PySem.W.exm_one asked.kIn (fun A Q E s k q => wpAny_typeOf_ref (k _ _ ge) (by rw [ze.1]; exact q)) hx
    refine wpAny_handleBy_cons (codeAny_handlers_test ?_) (by intro q; cases q)
    have name : ∀ {Q : Value → Shared → Prop} {E : Value → Shared → Prop}, Q c { t with heap := g } → wpAny (model X.prog X.w) (X.A.mark (some (.ref a))) (eval (.Name x p1) X.env) Q E { t with heap := g } := fun {Q E} q => by
      rcases hc with ⟨hg, hd, hm | ⟨hm, hv, hn⟩⟩
      · exact ld_glob asked hg hm q hd
      · exact ld_blt asked hg hm hv q hn hd
    refine name (looks.here (codeAny_handlers_suite_as ?_))
    refine HandSPX.lands_againZ fly fun g' fly' up' => ?_
    refine store_ok (X := X.suite a (X.pn ++ pins)) (inSuite (known fly' (upg.trans up'))) hN hi (.inl hl) (v := .ref a) rfl (fun s5 J5 => ?_) (.inr hl)
    exact wpAny_mono ((hsu a (X.pn ++ pins)).run [] s5 _ _ _ J5 (go a na)) (fun f s6 q => suite_end ok hN hi hl q) fun _ _ z => z.elim
end
end DL

set_option maxRecDepth 100000
set_option maxHeartbeats 2000000
namespace DL
open PySem PySem.Spec PyProof.Rows L2

/-! ### the classes of errors -/
/-- what the module holds of its errors: err the classes that may be raised, each with the names of what it is; tst the classes that are asked for -/
structure Errs (K : PySem.W.Frag) (mg : Str → Option Value) (err : List (Str × List Str)) (tst : List Str) : Prop where
  has : ∀ m, m ∈ tst → ∃ C, mg m = some (.ref C)
  cls : ∀ n l D, err.lookup n = some l → mg n = some (.ref D) → ExcC K D
  kit : ∀ n l D m, err.lookup n = some l → mg n = some (.ref D) → m ∈ tst → ∃ C, mg m = some (.ref C) ∧ PySem.W.kitOne K (.ref D) (.ref C) = some (l.contains m)
  kitT : ∀ n l D, err.lookup n = some l → mg n = some (.ref D) → PySem.W.kitOne K (.ref D) (.type "ValueError") = some (l.contains "ValueError")
  exm : ∀ n l D m, err.lookup n = some l → mg n = some (.ref D) → m ∈ tst → ∃ C, mg m = some (.ref C) ∧ PySem.W.exmOne K (.ref D) (.ref C) = some (l.contains m)

def clsTab (D : Addr) (cd : ClassData) (anc : List Str) (cs : List (Str × Addr)) : Bool :=
  !cd.mro.isEmpty && cd.mro.contains (.ref D) && cs.all (fun p => cd.mro.contains (.ref p.2) == anc.contains p.1) && (cd.mro.contains (.type "ValueError") == anc.contains "ValueError")
theorem lookup_mem {α : Type} {n : Str} {l : α} : ∀ {err : List (Str × α)}, err.lookup n = some l → (n, l) ∈ err
  | [], h => by cases h
  | (m, k) :: r, h => by
    rw [List.lookup_cons] at h
    split at h
    · rename_i e
      have e := eq_of_beq e
      cases h; subst e; exact List.mem_cons_self
    · exact List.mem_cons_of_mem _ (lookup_mem h)
theorem errs_mk {K : PySem.W.Frag} {mg : Str → Option Value} {err : List (Str × List Str)} {tst : List Str} (cs : List (Str × Addr)) (hc : cs.map (·.1) = tst)
    (h1 : ∀ p ∈ cs, mg p.1 = some (.ref p.2) ∧ PySem.W.typeIn K (.ref p.2) = some (.type "type") ∧ PySem.W.subIn K (.ref p.2) (.type "BaseException") = some true ∧ PySem.W.isClsIn K p.2 = true)
    (h2 : ∀ p ∈ err, ∃ D cd, mg p.1 = some (.ref D) ∧ ExcC K D ∧ PySem.W.clsIn K D = some cd ∧ clsTab D cd p.2 cs = true) : Errs K mg err tst := by
  have at_ : ∀ m, m ∈ tst → ∃ C, (m, C) ∈ cs := fun m hm => by
    rw [← hc] at hm
    obtain ⟨⟨a, C⟩, h, e⟩ := List.mem_map.mp hm
    simp only at e; subst e; exact ⟨C, h⟩
  have of : ∀ n l D, err.lookup n = some l → mg n = some (.ref D) → ∃ cd, ExcC K D ∧ PySem.W.clsIn K D = some cd ∧ clsTab D cd l cs = true := fun n l D e hn => by
    obtain ⟨D', cd, g, a, b, c⟩ := h2 _ (lookup_mem e)
    simp only at g
    rw [hn] at g; cases g
    exact ⟨cd, a, b, c⟩
  have cls : ∀ n l D m C, err.lookup n = some l → mg n = some (.ref D) → (m, C) ∈ cs → PySem.W.kitCls K (.ref D) (.ref C) = some (l.contains m) := fun n l D m C e hn hm => by
    obtain ⟨cd, _, b, c⟩ := of n l D e hn
    obtain ⟨_, g2, _, g4⟩ := h1 _ hm
    unfold clsTab at c
    simp only [Bool.and_eq_true, Bool.not_eq_true', List.all_eq_true, beq_iff_eq] at c
    obtain ⟨⟨⟨c1, c2⟩, c3⟩, c4⟩ := c
    have g4 : (PySem.W.clsIn K C).isSome = true := g4
    show (if ((PySem.W.clsIn K C).isSome && PySem.W.typeIn K (.ref C) == some (.type "type")) = true then PySem.W.subIn K (.ref D) (.ref C) else none) = _
    simp only at g2
    rw [g4, g2, if_pos (by simp)]
    show (PySem.W.clsIn K D).bind _ = _
    rw [b]
    show (if cd.mro.isEmpty = true then none else some (cd.mro.contains (.ref C))) = _
    rw [if_neg (by rw [c1]; decide), c3 _ hm]
  refine ⟨fun m hm => ?_, fun n l D e hn => ?_, fun n l D m e hn hm => ?_, fun n l D e hn => ?_, fun n l D m e hn hm => ?_⟩
  · obtain ⟨C, h⟩ := at_ m hm
    exact ⟨C, (h1 _ h).1⟩
  · obtain ⟨cd, a, _⟩ := of n l D e hn
    exact a
  · obtain ⟨C, h⟩ := at_ m hm
    refine ⟨C, (h1 _ h).1, ?_⟩
    have k := cls n l D m C e hn h
    unfold PySem.W.kitOne
    split
    · rename_i q
      have q := eq_of_beq q
      obtain ⟨cd, _, b, c⟩ := of n l D e hn
      unfold clsTab at c
      simp only [Bool.and_eq_true, Bool.not_eq_true', List.all_eq_true, beq_iff_eq] at c
      obtain ⟨⟨⟨c1, c2⟩, c3⟩, c4⟩ := c
      have := c3 _ h
      simp only at this
      rw [← this, ← q, c2]
    · exact k
  · obtain ⟨cd, _, b, c⟩ := of n l D e hn
    unfold clsTab at c
    simp only [Bool.and_eq_true, Bool.not_eq_true', List.all_eq_true, beq_iff_eq] at c
    obtain ⟨⟨⟨c1, c2⟩, c3⟩, c4⟩ := c
    have key : PySem.W.kitCls K (.ref D) (.type "ValueError") = some (l.contains "ValueError") := by
      show (if PySem.W.kitMeta "ValueError" = true then PySem.W.subIn K (.ref D) (.type "ValueError") else none) = _
      rw [if_pos (by decide +kernel)]
      show (PySem.W.clsIn K D).bind _ = _
      rw [b]
      show (if cd.mro.isEmpty = true then none else some (cd.mro.contains (.type "ValueError"))) = _
      rw [if_neg (by rw [c1]; decide), c4]
    unfold PySem.W.kitOne
    rw [if_neg (by simp)]
    exact key
  · obtain ⟨C, h⟩ := at_ m hm
    refine ⟨C, (h1 _ h).1, ?_⟩
    have k := cls n l D m C e hn h
    unfold PySem.W.exmOne
    rw [if_pos (by rw [(h1 _ h).2.2.1]; rfl), k]
theorem len1 {g : SE (List Dv)} {n : Nat} (h : ∀ ρ π ds π', g ρ π = .ok ds π' → ds.length = n) : ∀ ρ π ds π', g ρ π = .ok ds π' → ds.length + 1 = n + 1 := fun ρ π ds π' e => by rw [h ρ π ds π' e]

section
variable {X : Cx} {tb : Tb} {B : WX} {W0 : Wd} {H0 : Hp}
theorem StR.gone {M : Md} {W : Wd} {H : Hp} {ρ : List Sv} {π : Pn} {σ : L2.St} (i : Nat) (r : StR M W0 H0 W H ρ π σ) : StR M W0 H0 W H (ρ.set i .emp) π (σ.set i none) :=
  ⟨r.st.wipe [i], r.go, fun j a ds e1 e2 => by
    rcases get_set e1 with ⟨_, z, _⟩ | ⟨n1, e1⟩
    · cases z
    · rw [List.getElem?_set_ne n1] at e2; exact r.new j a ds e1 e2⟩
/-- try: f / except m as (slot i): g; the errors of err that are an m are caught, no others come -/
def sTry (i : Nat) (m : Str) (err : List (Str × List Str)) (f g : SS) : SS := fun ρ π => match f ρ π with
  | .exn n ρ1 π1 => (match err.lookup n with
    | some l => if l.contains m = true then (match g (ρ1.set i (.val (.err n))) π1 with
        | .nx ρ2 π2 => .nx (ρ2.set i .emp) π2
        | .rt d π2 => .rt d π2
        | _ => .bad) else .bad
    | none => .bad)
  | r => r
theorem s_try {n m : Str} {body suite : List Stmt} {s₁ : Stmt} {p1 p2 p3 : Pos} {err : List (Str × List Str)} {tst : List Str} {f g : SS} (i : Nat) (ER : Errs X.K X.mg err tst) (ht : m ∈ tst) (hs : X.stack = X.env :: X.outer) (hf : X.env.frame = some X.env.locals) (hex : X.ex = []) (hN : X.N.Nodup)
    (hb : ∀ (W : WX) (pn : List (Addr × Obj)) (xe : Value → Shared → Prop), Takes (X.tr pn xe) W → PassesOwn (model X.prog X.w) X.A X.env xe → PSs (X.tr pn xe) body (tS (Cx.md X tb) W0 H0 W f))
    (hsu : ∀ (a : Addr) (pn : List (Addr × Obj)), PSs (X.suite a pn) (s₁ :: suite) (tS (Cx.md X tb) W0 H0 B0 g))
    (hm : ∃ C, X.mg m = some (.ref C)) (hi : X.N[i]? = some n := by rfl) (hl : X.env.kindOf n = some .local := by rfl) (hg : Gl X m := by rfl) (hd : (m == ("__debug__" : Str)) = false := by decide) :
    PS X (.Try body [.ExceptHandler (some (.Name m p1)) (some n) (s₁ :: suite) p2] [] [] p3) (tS (Cx.md X tb) W0 H0 B (sTry i m err f g)) := by
  obtain ⟨C, hC⟩ := hm
  refine PS.weak (ps_try_known hs hf hex hN hi hl (c := .ref C) ⟨hg, hd, .inl hC⟩ hb hsu) ?_
  rintro D σ H ⟨W, ρ, π, st, p⟩
  refine ⟨W, ρ, π, st, ?_⟩
  unfold sTry at p
  cases e : f ρ π with
  | nx _ _ => rw [e] at p; exact p
  | rt _ _ => rw [e] at p; exact p
  | bk _ _ => rw [e] at p; exact p
  | ct _ _ => rw [e] at p; exact p
  | bad => rw [e] at p; exact p
  | exn nm ρ1 π1 =>
    rw [e] at p
    simp only at p
    cases e2 : err.lookup nm with
    | none => rw [e2] at p; exact p.elim
    | some l =>
      rw [e2] at p
      simp only at p
      split at p
      case isFalse => exact p.elim
      case isTrue hc =>
      intro W1 H1 σ1 Cn r1 same hn
      obtain ⟨C', hC', hx⟩ := ER.exm nm l Cn m e2 hn ht
      rw [hc] at hx
      have hC' : X.mg m = some (.ref C') := hC'
      rw [hC] at hC'; cases hC'
      refine ⟨hx, rfl, fun a na => ?_⟩
      obtain ⟨s2, pn2, sm2⟩ := fresh (o := ErO (.ref Cn) a) r1.st.same r1.st.pen na
      have r2 : StR (Cx.md X tb) W0 H0 _ _ ρ1 π1 σ1 := r1.step s2 pn2 sm2
      refine ⟨_, _, _, r2.set i (.err hn upd_same), ?_⟩
      cases e3 : g (ρ1.set i (.val (.err nm))) π1 with
      | nx ρ2 π2 =>
        rw [e3] at p
        intro W3 H3 σ3 r3 same3
        exact p W3 H3 _ (r3.gone i) (same.trans (s2.sub.trans same3))
      | rt d π2 =>
        rw [e3] at p
        exact p
      | bk _ _ => rw [e3] at p; exact p.elim
      | ct _ _ => rw [e3] at p; exact p.elim
      | exn _ _ _ => rw [e3] at p; exact p.elim
      | bad => rw [e3] at p; exact p.elim

/-! ### isinstance of an error -/
theorem inst_of {pins : List (Addr × Obj)} {σ : L2.St} {H : Hp} {s : Shared} {a D : Addr} (I : Inv X pins σ H s) (h : H a = some (ErO (.ref D) a)) : ∃ oe, PySem.W.InstAt s.heap a oe D none := by
  obtain ⟨⟨oe, vs, e1, e2, e3⟩, _⟩ := I.hok a _ h
  obtain ⟨oc, od, oda, osl⟩ := oe
  obtain ⟨h1, h2⟩ := e2
  dsimp only at h1 h2 e3
  subst h1 h2 e3
  exact ⟨_, e1, rfl, rfl, trivial⟩
def rErr (K : PySem.W.Frag) : List V → Hp → VK → Prop := fun xs H Q => ∃ (a D : Addr) (c : V) (cv : Value) (b : Bool), xs = [.ref a, c] ∧ H a = some (ErO (.ref D) a) ∧ ExcC K D ∧ ClsV c cv ∧ PySem.W.kitOne K (.ref D) cv = some b ∧ Q (.bl b) H
theorem call_err : CallR X (.builtin "isinstance") (rErr X.K) := by
  intro pins s σ H xs us Q I r h
  obtain ⟨a, D, c, cv, b, rfl, ha, C, k, e, q⟩ := h
  obtain ⟨u1, u2, rfl, r1, r2⟩ := vals2 r
  cases (show u1 = Value.ref a from r1)
  have e2 := k.eq r2
  subst e2
  obtain ⟨oe, J⟩ := inst_of I ha
  exact PySem.W.kia_one (PySem.W.handS_kitx_exc C.hg C.hk C.hs C.hd C.ha C.hn C.ht C.hm) I.kIn J e (fun z => nomatch z) fun tk => ⟨.bl b, H, I.kept (t' := tk) fun _ _ z => z, rfl, q⟩
def rErrT (K : PySem.W.Frag) : List V → Hp → VK → Prop := fun xs H Q => ∃ (a D tp : Addr) (cs : List V) (us : List Value) (b : Bool), xs = [.ref a, .ref tp] ∧ H a = some (ErO (.ref D) a) ∧ ExcC K D ∧ H tp = some (.tup cs) ∧ Paired ClsV cs us ∧ PySem.W.kitAny K (.ref D) us = some b ∧ Q (.bl b) H
theorem call_errT : CallR X (.builtin "isinstance") (rErrT X.K) := by
  intro pins s σ H xs us Q I r h
  obtain ⟨a, D, tp, cs, ws, b, rfl, ha, C, hT, k, e, q⟩ := h
  obtain ⟨u1, u2, rfl, r1, r2⟩ := vals2 r
  cases (show u1 = Value.ref a from r1)
  cases (show u2 = Value.ref tp from r2)
  obtain ⟨oe, J⟩ := inst_of I ha
  obtain ⟨_, its, rv, o, h1, h2, n, h3⟩ := (show ObjOk X.prog X.w H s.heap tp (.tup cs) from I.hok tp _ hT)
  have e3 := ClsV.all k rv
  subst e3
  obtain ⟨oc, od, dt, sl⟩ := o
  simp only at h2 h3
  subst h2 h3
  exact PySem.W.kia_tup (PySem.W.handS_kitx_exc C.hg C.hk C.hs C.hd C.ha C.hn C.ht C.hm) I.kIn J h1 e (fun z => nomatch z) fun tk => ⟨.bl b, H, I.tok tk, rfl, q⟩
/-- isinstance(e, m): m a class of the module -/
def eIsE (m : Str) (err : List (Str × List Str)) (f : SE Dv) : SE Dv := fun ρ π => (f ρ π).bind fun d π1 => match d with
  | .err n => (match err.lookup n with
    | some l => .ok (.val (.bool (l.contains m))) π1
    | none => .bad)
  | _ => .bad
theorem e_isE {p p2 pos : Pos} {e : Expr} {m : Str} {err : List (Str × List Str)} {tst : List Str} {f : SE Dv} (ER : Errs X.K X.mg err tst) (ht : m ∈ tst) (hm : X.mg "isinstance" = none) (hmC : ∃ C, X.mg m = some (.ref C)) (he : PE X e (tE (Cx.md X tb) B f)) (hg : Gl X "isinstance" := by rfl) (hgT : Gl X m := by rfl)
    (hdT : (m == ("__debug__" : Str)) = false := by decide) (hs : starEach [e, .Name m p2] X.env = (false, eval e X.env) :: starEach [.Name m p2] X.env := by rfl) (hs2 : starEach [.Name m p2] X.env = (false, eval (.Name m p2) X.env) :: starEach [] X.env := by rfl) (hpl : (backTo pos (starEach [.Name m p2] X.env)).any (·.1) = false := by rfl) :
    PE X (.Call (.Name "isinstance" p) [e, .Name m p2] [] pos) (tE (Cx.md X tb) B (eIsE m err f)) := by
  obtain ⟨C, hC⟩ := hmC
  refine PE.weak (pe_callB call_err hg hm (by decide +kernel) (pa_cons he (pa_cons (pe_glob (v := .ref C) hgT hC rfl hdT) pa_nil hs2) hs) (by decide) (by decide) hs hpl) ?_
  rintro σ H Q ⟨W, ρ, π, st, p⟩
  refine ⟨W, ρ, π, st, p.bind fun d π1 W1 H1 v s1 pn1 sm1 r1 p1 => ?_⟩
  show ∃ a D c cv b, [v, V.ref C] = [.ref a, c] ∧ _
  cases r1 with
  | val _ => exact p1.elim
  | pen _ => exact p1.elim
  | scr _ _ => exact p1.elim
  | dct _ _ _ => exact p1.elim
  | fn _ => exact p1.elim
  | @err a D n hn ha =>
    simp only at p1
    cases e2 : err.lookup n with
    | none => rw [e2] at p1; exact p1.elim
    | some l =>
      rw [e2] at p1
      obtain ⟨C', hC', hk⟩ := ER.kit n l D m e2 hn ht
      rw [hC] at hC'; cases hC'
      exact ⟨a, D, .ref C, .ref C, _, rfl, sm1 _ _ ha, ER.cls n l D e2 hn, .own C, hk, p1.now pn1 sm1 (.val (.bl _))⟩
theorem e_isEV {p p2 pos : Pos} {e : Expr} {err : List (Str × List Str)} {tst : List Str} {f : SE Dv} (ER : Errs X.K X.mg err tst) (hm : X.mg "isinstance" = none) (hmT : X.mg "ValueError" = none) (he : PE X e (tE (Cx.md X tb) B f)) (hg : Gl X "isinstance" := by rfl) (hgT : Gl X "ValueError" := by rfl)
    (hs : starEach [e, .Name "ValueError" p2] X.env = (false, eval e X.env) :: starEach [.Name "ValueError" p2] X.env := by rfl) (hs2 : starEach [.Name "ValueError" p2] X.env = (false, eval (.Name "ValueError" p2) X.env) :: starEach [] X.env := by rfl) (hpl : (backTo pos (starEach [.Name "ValueError" p2] X.env)).any (·.1) = false := by rfl) :
    PE X (.Call (.Name "isinstance" p) [e, .Name "ValueError" p2] [] pos) (tE (Cx.md X tb) B (eIsE "ValueError" err f)) := by
  refine PE.weak (pe_callB call_err hg hm (by decide +kernel) (pa_cons he (pa_cons (pe_bltn (v := .ty "ValueError") hgT hmT (by decide +kernel) rfl (by decide) (by decide)) pa_nil hs2) hs) (by decide) (by decide) hs hpl) ?_
  rintro σ H Q ⟨W, ρ, π, st, p⟩
  refine ⟨W, ρ, π, st, p.bind fun d π1 W1 H1 v s1 pn1 sm1 r1 p1 => ?_⟩
  show ∃ a D c cv b, [v, V.ty "ValueError"] = [.ref a, c] ∧ _
  cases r1 with
  | val _ => exact p1.elim
  | pen _ => exact p1.elim
  | scr _ _ => exact p1.elim
  | dct _ _ _ => exact p1.elim
  | fn _ => exact p1.elim
  | @err a D n hn ha =>
    simp only at p1
    cases e2 : err.lookup n with
    | none => rw [e2] at p1; exact p1.elim
    | some l =>
      rw [e2] at p1
      exact ⟨a, D, .ty "ValueError", .type "ValueError", _, rfl, sm1 _ _ ha, ER.cls n l D e2 hn, .ty _, ER.kitT n l D e2 hn, p1.now pn1 sm1 (.val (.bl _))⟩
/-- isinstance(e, (m, ..)) -/
def eIsEs (ms : List Str) (err : List (Str × List Str)) (f : SE Dv) : SE Dv := fun ρ π => (f ρ π).bind fun d π1 => match d with
  | .err n => (match err.lookup n with
    | some l => .ok (.val (.bool (ms.any fun m => l.contains m))) π1
    | none => .bad)
  | _ => .bad
/-- the classes of a written tuple -/
inductive Clss (X : Cx) : List Str → List Expr → List Addr → Prop
  | nil : Clss X [] [] []
  | cons {m : Str} {p : Pos} {ms : List Str} {es : List Expr} {C : Addr} {Cs : List Addr} : X.mg m = some (.ref C) → Gl X m → (m == ("__debug__" : Str)) = false → starEach (.Name m p :: es) X.env = (false, eval (.Name m p) X.env) :: starEach es X.env → Clss X ms es Cs → Clss X (m :: ms) (.Name m p :: es) (C :: Cs)
theorem clss_nil : ∃ Cs, Clss X [] [] Cs := ⟨[], .nil⟩
theorem clss_cons {m : Str} {p : Pos} {ms : List Str} {es : List Expr} (h : ∃ C, X.mg m = some (.ref C)) (r : ∃ Cs, Clss X ms es Cs) (hg : Gl X m := by rfl) (hd : (m == ("__debug__" : Str)) = false := by decide) (hs : starEach (.Name m p :: es) X.env = (false, eval (.Name m p) X.env) :: starEach es X.env := by rfl) : ∃ Cs, Clss X (m :: ms) (.Name m p :: es) Cs :=
  let ⟨C, h⟩ := h; let ⟨Cs, r⟩ := r; ⟨C :: Cs, .cons h hg hd hs r⟩
theorem Clss.pa {ms : List Str} {es : List Expr} {Cs : List Addr} (h : Clss X ms es Cs) : PA X es (fun σ H Q => Q (Cs.map V.ref) H) := by
  induction h with
  | nil => exact PA.weak pa_nil fun σ H Q q => q
  | cons hm hg hd hs _ ih => exact PA.weak (pa_cons (pe_glob (v := .ref _) hg hm rfl hd) ih hs) fun σ H Q q => q
theorem Clss.len {ms : List Str} {es : List Expr} {Cs : List Addr} (h : Clss X ms es Cs) : Cs.length = ms.length := by
  induction h with
  | nil => rfl
  | cons _ _ _ _ _ ih => exact congrArg (· + 1) ih
theorem Clss.any {err : List (Str × List Str)} {tst : List Str} {n : Str} {l : List Str} {D : Addr} (ER : Errs X.K X.mg err tst) (e : err.lookup n = some l) (hn : X.mg n = some (.ref D)) {ms : List Str} {es : List Expr} {Cs : List Addr} (h : Clss X ms es Cs) (ht : ∀ m ∈ ms, m ∈ tst) :
    PySem.W.kitAny X.K (.ref D) (Cs.map Value.ref) = some (ms.any fun m => l.contains m) := by
  induction h with
  | nil => rfl
  | @cons m p ms es C Cs hm _ _ _ _ ih =>
    obtain ⟨C', hC', hk⟩ := ER.kit n l D m e hn (ht m List.mem_cons_self)
    rw [hm] at hC'; cases hC'
    have ih := ih fun m hm => ht m (List.mem_cons_of_mem _ hm)
    refine kitAny_cons hk (fun z => ?_) fun z => ?_
    · rw [ih, List.any_cons, z]; rfl
    · rw [List.any_cons, z]; rfl
theorem paired_own : ∀ Cs : List Addr, Paired ClsV (Cs.map V.ref) (Cs.map Value.ref)
  | [] => .nil
  | C :: Cs => .cons (.own C) (paired_own Cs)
theorem e_isEs {p pt pos : Pos} {e : Expr} {x1} {es : List Expr} {ms : List Str} {err : List (Str × List Str)} {tst : List Str} {f : SE Dv} (ER : Errs X.K X.mg err tst) (ht : ∀ m ∈ ms, m ∈ tst) (hm : X.mg "isinstance" = none) (hc : ∃ Cs, Clss X ms es Cs) (hl : ms.length ≤ 100) (he : PE X e (tE (Cx.md X tb) B f)) (hg : Gl X "isinstance" := by rfl)
    (hs : starEach [e, .Tuple es x1 pt] X.env = (false, eval e X.env) :: starEach [.Tuple es x1 pt] X.env := by rfl) (hs2 : starEach [.Tuple es x1 pt] X.env = (false, eval (.Tuple es x1 pt) X.env) :: starEach [] X.env := by rfl) (hpl : (backTo pos (starEach [.Tuple es x1 pt] X.env)).any (·.1) = false := by rfl) :
    PE X (.Call (.Name "isinstance" p) [e, .Tuple es x1 pt] [] pos) (tE (Cx.md X tb) B (eIsEs ms err f)) := by
  obtain ⟨Cs, hC⟩ := hc
  refine PE.weak (pe_callB call_errT hg hm (by decide +kernel) (pa_cons he (pa_cons (pe_tup hC.pa) pa_nil hs2) hs) (by decide) (by decide) hs hpl) ?_
  rintro σ H Q ⟨W, ρ, π, st, p⟩
  refine ⟨W, ρ, π, st, p.bind fun d π1 W1 H1 v s1 pn1 sm1 r1 p1 => ?_⟩
  have hlen := hC.len
  refine ⟨by rw [List.length_map, hlen]; exact Nat.le_trans hl (by decide), fun t nt => ?_⟩
  show ∃ a D tp cs us b, [v, V.ref t] = [.ref a, .ref tp] ∧ _
  cases r1 with
  | val _ => exact p1.elim
  | pen _ => exact p1.elim
  | scr _ _ => exact p1.elim
  | dct _ _ _ => exact p1.elim
  | fn _ => exact p1.elim
  | @err a D n hn ha =>
    simp only at p1
    cases e2 : err.lookup n with
    | none => rw [e2] at p1; exact p1.elim
    | some l =>
      rw [e2] at p1
      obtain ⟨s2, pn2, sm2⟩ := fresh (o := .tup (Cs.map V.ref)) sm1 pn1 nt
      refine ⟨a, D, t, Cs.map V.ref, Cs.map Value.ref, _, rfl, ?_, ER.cls n l D e2 hn, upd_same, paired_own Cs, hC.any ER e2 hn ht, p1 _ _ _ s2 pn2 sm2 (.val (.bl _))⟩
      rw [upd_ne (ne_of_none (sm1 _ _ ha) nt)]; exact sm1 _ _ ha

/-! ### lists made by + and *, held -/
def lAdd (f g : SE Dv) : SE (List PyData) := fun ρ π => (f ρ π).bind fun d π1 => (g ρ π1).bind fun e π2 => match d, e with
  | .val (.list xs), .val (.list ys) => if xs.length + ys.length ≤ 16777216 then .ok (xs ++ ys) π2 else .bad
  | _, _ => .bad
def lMul (f g : SE Dv) : SE (List PyData) := fun ρ π => (f ρ π).bind fun d π1 => (g ρ π1).bind fun e π2 => match d, e with
  | .val (.list xs), .val (.int n) => if -1000000 ≤ n ∧ n ≤ 1000000 ∧ xs.length * n.toNat ≤ 16777216 then .ok (List.replicate n.toNat xs).flatten π2 else .bad
  | _, _ => .bad
theorem l_add {a b : Expr} {pos : Pos} {f g : SE Dv} (ha : PE X a (tE (Cx.md X tb) B f)) (hb : PE X b (tE (Cx.md X tb) B g)) : PE X (.BinOp a .Add b pos) (tL (Cx.md X tb) B (lAdd f g)) := by
  refine PE.weak (pe_op op_cat ha hb) ?_
  rintro σ H Q ⟨W, ρ, π, st, p⟩
  refine ⟨W, ρ, π, st, ?_⟩
  unfold lAdd at p
  cases q : f ρ π with
  | bad => rw [q] at p; exact p
  | exn n π' => rw [q] at p; exact p
  | ok d π1 =>
    rw [q] at p
    intro W1 H1 v s1 pn1 sm1 r1
    refine ⟨W1, ρ, π1, st.step s1 pn1 sm1, ?_⟩
    simp only [Res.bind] at p
    cases q2 : g ρ π1 with
    | bad => rw [q2] at p; exact p
    | exn n π' => rw [q2] at p; exact fun W' H' C s pn sm e => p W' H' C (s1.trans s) pn sm e
    | ok e π2 =>
      rw [q2] at p
      intro W2 H2 u s2 pn2 sm2 r2
      simp only at p
      split at p
      · split at p
        · rename_i hl
          obtain ⟨x, xs, rfl, ea, za, ra⟩ := rv_lst (r1.step s2)
          obtain ⟨y, ys, rfl, eb, zb, rb⟩ := rv_lst r2
          have hl2 : xs.length + ys.length ≤ sizeLine := by rw [ra.length, rb.length]; exact line_le.mp hl
          exact ⟨x, y, xs, ys, rfl, rfl, sm2 _ _ ea, sm2 _ _ eb, hl2, fun l nl => ownL p (s1.trans s2) pn2 sm2 nl (by rw [List.length_append]; exact hl2) (ra.append rb)⟩
        · exact p.elim
      · exact p.elim
theorem l_mul {a b : Expr} {pos : Pos} {f g : SE Dv} (ha : PE X a (tE (Cx.md X tb) B f)) (hb : PE X b (tE (Cx.md X tb) B g)) : PE X (.BinOp a .Mult b pos) (tL (Cx.md X tb) B (lMul f g)) := by
  refine PE.weak (pe_op op_rep ha hb) ?_
  rintro σ H Q ⟨W, ρ, π, st, p⟩
  refine ⟨W, ρ, π, st, ?_⟩
  unfold lMul at p
  cases q : f ρ π with
  | bad => rw [q] at p; exact p
  | exn n π' => rw [q] at p; exact p
  | ok d π1 =>
    rw [q] at p
    intro W1 H1 v s1 pn1 sm1 r1
    refine ⟨W1, ρ, π1, st.step s1 pn1 sm1, ?_⟩
    simp only [Res.bind] at p
    cases q2 : g ρ π1 with
    | bad => rw [q2] at p; exact p
    | exn n π' => rw [q2] at p; exact fun W' H' C s pn sm e => p W' H' C (s1.trans s) pn sm e
    | ok e π2 =>
      rw [q2] at p
      intro W2 H2 u s2 pn2 sm2 r2
      simp only at p
      split at p
      · split at p
        · rename_i ds kk hl
          obtain ⟨h1, h2, h3⟩ := hl
          obtain ⟨x, xs, rfl, ea, za, ra⟩ := rv_lst (r1.step s2)
          cases rv_int r2
          have h4 := line_le.mp h3
          rw [← ra.length] at h4
          refine ⟨x, _, xs, rfl, rfl, sm2 _ _ ea, by omega, by omega, h4, fun l nl => ownL p (s1.trans s2) pn2 sm2 nl ?_ ?_⟩
          · simp only [List.length_flatten, List.map_replicate, List.sum_replicate_nat]; rw [Nat.mul_comm]; exact h4
          · have rep : ∀ k : Nat, DqAll W2.F (List.replicate k xs).flatten (List.replicate k ds).flatten := fun k => by
              induction k with
              | zero => exact .nil
              | succ k ih => rw [List.replicate_succ, List.replicate_succ, List.flatten_cons, List.flatten_cons]; exact ra.append ih
            exact rep _
        · exact p.elim
      · exact p.elim

/-! ### a def with one default, None -/
structure AtD (K : PySem.W.Frag) (mg : Str → Option Value) (x : Str) (st : Stmt) (ps : List Str) (f : Addr) (fd : FuncData) : Prop where
  F : Stands K x x st f fd
  kp : PySem.W.keepIn K (.ref f) = true
  g : mg x = some (.ref f)
  b : Binds K fd ps []
  b1 : Binds K fd ps [.none]
structure DefD (P : Program) (w : World) (K : PySem.W.Frag) (mg : Str → Option Value) (base : Heap) (tb : Tb) (k : Nat) (x : Str) (ps : List Str) (μ : Mu) : Prop where
  ex : ∃ f fd, FnG P w K mg base tb k f fd ps μ ∧ mg x = some (.ref f) ∧ PySem.W.keepIn K (.ref f) = true ∧ Binds K fd ps [] ∧ Binds K fd ps [.none]
theorem DefD.all {P : Program} {w : World} {K : PySem.W.Frag} {mg : Str → Option Value} {base : Heap} {tb : Tb} {k : Nat} {x : Str} {ps : List Str} {μ : Mu} (D : DefD P w K mg base tb k x ps μ) : Def P w K mg base tb k x ps μ :=
  let ⟨f, fd, a, b, c, d, _⟩ := D.ex; ⟨f, fd, a, b, c, d⟩
theorem atD_mk {K : PySem.W.Frag} {mg : Str → Option Value} {x : Str} {st : Stmt} {ps : List Str} {f T : Addr} {oc ocT kV doc pm cdv ct : Value} {od odT an : Option Addr} {osl slT : Array (Option Value)} {its : Array Value} {nT : Nat}
    (l : K.lookup f = some ⟨oc, od, .func (PySem.W.fnOf x x (defArgs st) (defBody st) (defScope st) (.ref T) kV doc pm an cdv ct), osl⟩) (c : PySem.W.codeIn K cdv x = true) (k : PySem.W.keepIn K (.ref f) = true) (g : mg x = some (.ref f))
    (lT : K.lookup T = some ⟨ocT, odT, .seq its nT, slT⟩) (iT : its = [Value.none].toArray) (n : Nat) (hn : n + 1 = ps.length)
    (h0 : ∀ (T : Addr) (kV doc pm : Value) (an : Option Addr) (cdv ct : Value) (us its : List Value), us.length = n + 1 → its.length = 1 →
      ∃ k, bindArgs (PySem.W.fnOf x x (defArgs st) (defBody st) (defScope st) (.ref T) kV doc pm an cdv ct) ⟨us, []⟩ = seqItems? (.ref T) >>= k ∧ k (some its.toArray) = pure (ps.zip (us ++ its.drop 1)))
    (h1 : ∀ (T : Addr) (kV doc pm : Value) (an : Option Addr) (cdv ct : Value) (us its : List Value), us.length = n → its.length = 1 →
      ∃ k, bindArgs (PySem.W.fnOf x x (defArgs st) (defBody st) (defScope st) (.ref T) kV doc pm an cdv ct) ⟨us, []⟩ = seqItems? (.ref T) >>= k ∧ k (some its.toArray) = pure (ps.zip (us ++ its.drop 0))) :
    AtD K mg x st ps f (PySem.W.fnOf x x (defArgs st) (defBody st) (defScope st) (.ref T) kV doc pm an cdv ct) := by
  subst iT
  have FD : FunD K x x (defArgs st) (defBody st) (defScope st) [.non] [] f (PySem.W.fnOf x x (defArgs st) (defBody st) (defScope st) (.ref T) kV doc pm an cdv ct) :=
    ⟨⟨oc, od, .ref T, kV, doc, pm, an, cdv, ct, osl, rfl, l, c, .inr ⟨by simp, T, _, [.none], nT, rfl, lT, rfl, .cons rfl .nil⟩, .inl rfl⟩, k⟩
  obtain ⟨d0, r0, b0⟩ := FD.binds1 (ps := ps) (n + 1) 1 (by simp) hn h0
  obtain ⟨d1, r1, b1⟩ := FD.binds1 (ps := ps) n 0 (by simp) hn h1
  cases r0
  cases r1 with
  | cons a b =>
    cases b
    cases (show _ = Value.none from a)
    exact ⟨⟨oc, od, .ref T, kV, doc, pm, an, cdv, ct, osl, rfl, l, c⟩, k, g, b0, b1⟩
def eCallD (μ : Mu) (g : SE (List Dv)) : SE Dv := fun ρ π => (g ρ π).bind fun ds π1 => μ (ds ++ [.val .none]) π1
theorem RvL.append {M : Md} {W : Wd} {vs ws : List V} {ds es : List Dv} (r : RvL M W vs ds) (t : RvL M W ws es) : RvL M W (vs ++ ws) (ds ++ es) := by
  induction r with
  | nil => exact t
  | cons r _ ih => exact .cons r ih
theorem e_fnD {k n : Nat} {x : Str} {p pos : Pos} {e : Expr} {es : List Expr} {g : SE (List Dv)} {ps : List Str} {μ : Mu} (D : DefD X.prog X.w X.K X.mg X.base tb k x ps μ) (hr : Room n X.A) (gd : X.A.guards = some []) (tk : Takes X B) (ha : PA X (e :: es) (tA (Cx.md X tb) B g)) (hl : ∀ ρ π ds π', g ρ π = .ok ds π' → ds.length + 1 = ps.length)
    (hk : k ≤ n := by first | decide | omega) (hg : Gl X x := by rfl) (hdb : (x == ("__debug__" : Str)) = false := by decide) (he : starEach (e :: es) X.env = (false, eval e X.env) :: starEach es X.env := by rfl) (hpl : (backTo pos (starEach es X.env)).any (·.1) = false := by rfl) :
    PE X (.Call (.Name x p) (e :: es) [] pos) (tE (Cx.md X tb) B (eCallD μ g)) := by
  obtain ⟨f, fd, F, hm, hkp, _, hb⟩ := D.ex
  refine ⟨fun pins s σ H Q I ⟨W, ρ, π, st, q⟩ => ?_⟩
  unfold eCallD at q
  refine wpAny_Call_Name_kw (ld_glob I hg hm (PySem.W.callWith_K (h₀ := X.base) I.ok.mod.kin hkp ?_ he hpl) hdb)
  have key : tA (Cx.md X tb) B g σ H (fun vs H1 => ∃ W1 ds π1, W1.tb = tb ∧ Same W1.F H1 ∧ PenOk W1 H1 π1 ∧ RvL (Cx.md X tb) W1 vs ds ∧ ds.length + 1 = ps.length ∧ Post (Cx.md X tb) (Rv (Cx.md X tb)) B W1 H1 σ Q (μ (ds ++ [.val .none]) π1)) := by
    refine ⟨W, ρ, π, st, ?_⟩
    cases z : g ρ π with
    | bad => rw [z] at q; exact q
    | exn n π' => rw [z] at q; exact q
    | ok ds π1 =>
      rw [z] at q
      exact fun W1 H1 vs s1 pn1 sm1 r1 => ⟨W1, ds, π1, s1.tb.trans st.tbe, sm1, pn1, r1, hl _ _ _ _ z, Post.step (r := μ (ds ++ [.val .none]) π1) q s1⟩
  refine thn (ha.run pos pins s σ H _ I key) fun us s1 ⟨vs, H1, I1, r, W1, ds, π1, tt1, sm1, pn1, r1, hl1, q1⟩ => ⟨I1.kIn, ?_⟩
  have hl2 : (us ++ [Value.none]).length = ps.length := by rw [List.length_append, ← r.length, r1.length]; exact hl1
  have hb' := hb s1 us I1.kIn hl2
  have r2 : Vals (vs ++ [V.non]) (us ++ [Value.none]) := r.append (.cons rfl .nil)
  have r3 : RvL (Cx.md X tb) W1 (vs ++ [V.non]) (ds ++ [.val .none]) := r1.append (.cons (.val .non) .nil)
  refine wpAny_call (codeAny_mono ((F.mono hk).run X.A X.stack s1 H1 ⟨us, []⟩ _ _ W1 _ π1 Q (WE B σ) hr gd I1.env0 hb' r2 r3 (by rw [List.length_append]; exact hl1) tt1 sm1 pn1 (q1.sig fun c d H h => h)) fun r s' hq => ?_)
  cases r with
  | error e => exact passAt tk σ pins H1 s1 e s' I1 hq
  | ok fl =>
    cases fl with
    | ret u => exact I1.after hq
    | next => exact False.elim hq
    | brk => exact False.elim hq
    | cont => exact False.elim hq
end
end DL

set_option maxRecDepth 100000
set_option maxHeartbeats 2000000
namespace DL
open PySem PySem.Spec PyProof.Rows L2
section
variable {X : Cx} {tb : Tb} {B : WX} {W0 : Wd} {H0 : Hp}
/-! ### methods of lists: count, index -/
def liftML (op : Dv → List Dv → Option Dv) (f : SE Dv) (g : SE (List Dv)) : SE Dv := fun ρ π => (f ρ π).bind fun d π1 => match d with
  | .val (.list x) => (g ρ π1).bind fun ds π2 => (match op (.val (.list x)) ds with
    | some z => .ok z π2
    | none => .bad)
  | _ => .bad
theorem e_methL {o e : Expr} {es : List Expr} {name : Str} {apos cpos : Pos} {id : String} {op : Dv → List Dv → Option Dv} {f : SE Dv} {g : SE (List Dv)} (pa : PlainAttrs "list") (slot : Slot "list" name id) (hty : typeOf (.builtin id) = pure (.type "method_descriptor")) (hm : MtR X id (rM (Cx.md X tb) op)) (ho : PE X o (tE (Cx.md X tb) B f)) (ha : PA X (e :: es) (tA (Cx.md X tb) B g))
    (hbase : attributeBase o name X.env (eval o X.env) = eval o X.env := by rfl)
    (hfew : ((backTo cpos (starEach (e :: es) X.env)).all (fun x => !x.1) && (backToKw cpos (keywordEach [] X.env)).all (fun x => x.1.isSome) && decide ((e :: es).length + ([] : List Keyword).length + (if ([] : List Keyword).isEmpty then 0 else 1) < 30)) = true := by rfl)
    (hline : (apos.endLine == cpos.line) = true := by rfl) (hs : starEach (e :: es) X.env = (false, eval e X.env) :: starEach es X.env := by rfl) (hplain : (backTo cpos (starEach es X.env)).any (·.1) = false := by rfl) :
    PE X (.Call (.Attribute o name apos) (e :: es) [] cpos) (tE (Cx.md X tb) B (liftML op f g)) := by
  refine PE.weak (pe_bm pa slot hty hm ho ha hbase hfew hline hs hplain) ?_
  rintro σ H Q ⟨W, ρ, π, st, p⟩
  refine ⟨W, ρ, π, st, p.bind fun d π1 W1 H1 v s1 pn1 sm1 r1 p1 => ?_⟩
  cases r1 with
  | pen _ => exact p1.elim
  | scr _ _ => exact p1.elim
  | err _ _ => exact p1.elim
  | dct _ _ _ => exact p1.elim
  | fn _ => exact p1.elim
  | val r => cases r with
    | non => exact p1.elim
    | bl _ => exact p1.elim
    | int _ => exact p1.elim
    | str _ => exact p1.elim
    | tup _ _ _ => exact p1.elim
    | @lst a xs ds ea za ra =>
      refine ⟨.inl ⟨rfl, xs, SqL.of (sm1 _ _ ea)⟩, W1, ρ, π1, st.step s1 pn1 sm1, p1.bind fun es' π2 W2 H2 vs s2 pn2 sm2 r2 p2 => ?_⟩
      cases q : op (.val (.list ds)) es' with
      | none => simp only [q] at p2; exact p2.elim
      | some z =>
        simp only [q] at p2
        exact ⟨W2, _, es', z, sm2, .val (.lst (s2.sub _ _ ea) za (ra.mono s2.sub)), r2, q, fun v' H' W' s4 pn4 sm4 r4 => p2 W' H' v' s4 (pn4 π2 pn2) sm4 r4⟩
/-- the first place of an equal one -/
def placeD (d : PyData) : List PyData → Option Nat
  | [] => none
  | e :: r => if PyData.eqv e d = true then some 0 else (placeD d r).map (· + 1)
theorem placeD_ok {d : PyData} : ∀ {l : List PyData} {j : Nat}, placeD d l = some j → ∃ z, l[j]? = some z ∧ PyData.eqv z d = true ∧ ∀ (m : Nat) (z' : PyData), m < j → l[m]? = some z' → PyData.eqv z' d = false
  | [], _, h => by cases h
  | e :: r, j, h => by
    unfold placeD at h
    by_cases q : PyData.eqv e d = true
    · rw [if_pos q] at h; cases h
      exact ⟨e, rfl, q, fun m _ hm => absurd hm (Nat.not_lt_zero m)⟩
    · rw [if_neg q] at h
      obtain ⟨k, hk, rfl⟩ := Option.map_eq_some_iff.mp h
      obtain ⟨z, h1, h2, h3⟩ := placeD_ok hk
      refine ⟨z, h1, h2, fun m z' hm hz => ?_⟩
      cases m with
      | zero => cases hz; exact Bool.eq_false_iff.mpr q
      | succ m => exact h3 m z' (by omega) hz
def mLIndex : Dv → List Dv → Option Dv
  | .val (.list ds), [.val d] => if flatD d && ds.all flatD then (placeD d ds).map fun j => .val (.int (j : Nat)) else none
  | _, _ => none
def mLCount : Dv → List Dv → Option Dv
  | .val (.list ds), [.val d] => if flatD d && ds.all flatD then some (.val (.int ((ds.countP fun e => PyData.eqv e d : Nat) : Int))) else none
  | _, _ => none
theorem m_lindex : MtR X "list.index" (rM (Cx.md X tb) mLIndex) := by
  rintro pins s σ H x xs v us Q I rx rs ⟨W, d, ds, z, sm, rd, rds, hz, q⟩
  unfold mLIndex at hz
  split at hz
  · rename_i l e
    obtain ⟨w, rfl, r1⟩ := rvl1 rds
    obtain ⟨a, ys, rfl, ea, za, ra⟩ := rv_lst rd
    have r1 := rv_data r1
    split at hz
    · rename_i hf
      have hf := Bool.and_eq_true_iff.mp hf
      obtain ⟨j, hj, rfl⟩ := Option.map_eq_some_iff.mp hz
      obtain ⟨z, h1, h2, h3⟩ := placeD_ok hj
      obtain ⟨zv, h4, h5⟩ := ra.get' h1
      have fz : flatD z = true := List.all_eq_true.mp hf.2 z (List.mem_of_getElem? h1)
      refine mt_index pins s σ H _ _ v us Q I rx rs ⟨a, ys, w, j, zv, rfl, rfl, SqL.of (sm _ _ ea), flat_v r1 hf.1, flat_all ra hf.2, h4, (eqv_v h5 r1 fz hf.1).trans h2, fun m z' hm hz' => ?_, stay q sm (.val (.int _))⟩
      obtain ⟨d', h6, h7⟩ := ra.get hz'
      exact (eqv_v h7 r1 (List.all_eq_true.mp hf.2 d' (List.mem_of_getElem? h6)) hf.1).trans (h3 m d' hm h6)
    · cases hz
  · cases hz
theorem flat_plain : ∀ {ds : List PyData}, ds.all flatD = true → PyData.plainAll ds = true ∧ PyData.depthAll ds = 0
  | [], _ => ⟨rfl, rfl⟩
  | d :: ds, h => by
    rw [List.all_cons, Bool.and_eq_true_iff] at h
    obtain ⟨a, b⟩ := flat_plain h.2
    have hd : d.plain = true ∧ d.depth = 0 := by
      have := h.1
      cases d <;> first | exact ⟨rfl, rfl⟩ | cases this
    refine ⟨?_, ?_⟩
    · show (d.plain && PyData.plainAll ds) = true
      rw [hd.1, a]; rfl
    · show max d.depth (PyData.depthAll ds) = 0
      rw [hd.2, b]; rfl
theorem m_lcount (hu : X.A.units + 64 < cLine) : MtR X "list.count" (rM (Cx.md X tb) mLCount) := by
  rintro pins s σ H x xs v us Q I rx rs ⟨W, d, ds, z, sm, rd, rds, hz, q⟩
  unfold mLCount at hz
  split at hz
  · rename_i l e
    obtain ⟨w, rfl, r1⟩ := rvl1 rds
    obtain ⟨a, ys, rfl, ea, za, ra⟩ := rv_lst rd
    have r1 := rv_data r1
    split at hz
    · rename_i hf
      have hf := Bool.and_eq_true_iff.mp hf
      cases hz
      cases rx
      obtain ⟨u, rfl, ru⟩ := rs.one
      obtain ⟨its, rv, ⟨⟨cls, dd, data, sls⟩, n, ho, hc, hdn, hdt⟩, hlen⟩ := I.list (SqL.of (sm _ _ ea))
      simp only at hc hdt
      subst hc hdt
      obtain ⟨as, h4⟩ := Dp.readsAll I l ys its (ra.dp sm) rv
      obtain ⟨bs, h5⟩ := Dp.reads I e w u (r1.dp sm) ru
      obtain ⟨p1, p2⟩ := flat_plain hf.2
      obtain ⟨p3, p4⟩ := flat_plain (ds := [e]) (by rw [List.all_cons, hf.1]; rfl)
      have pe : e.plain = true := by
        have p3 : (e.plain && true) = true := p3
        rwa [Bool.and_true] at p3
      refine PySem.SeqAt.count_list_data (vs := its.toArray) ⟨_, ho, rfl, n, rfl⟩ h4 h5 p1 pe (by rw [p2]; omega) ?_
      exact ⟨.int _, H, I.tok _, ⟨_, rfl⟩, stay q sm (.val (.int _))⟩
    · cases hz
  · cases hz
/-! ### is True, is False -/
def dIsB : Dv → Dv → Option Dv
  | .val (.bool a), .val (.bool b) => some (.val (.bool (decide (a = b))))
  | _, _ => none
def dNotB : Dv → Dv → Option Dv
  | .val (.bool a), .val (.bool b) => some (.val (.bool (!decide (a = b))))
  | _, _ => none
theorem o_isB : OpR X (compareOp .Is) (rD (Cx.md X tb) dIsB) := by
  rintro pins s σ H x y v u Q I rx ry ⟨W, d, e, z, sm, rd, re, hz, q⟩
  unfold dIsB at hz
  split at hz
  · cases hz; cases rv_bl rd; cases rv_bl re
    exact op_is_bl pins s σ H _ _ v u Q I rx ry ⟨_, _, rfl, rfl, stay q sm (.val (.bl _))⟩
  · cases hz
theorem o_notB : OpR X (compareOp .IsNot) (rD (Cx.md X tb) dNotB) := by
  rintro pins s σ H x y v u Q I rx ry ⟨W, d, e, z, sm, rd, re, hz, q⟩
  unfold dNotB at hz
  split at hz
  · cases hz; cases rv_bl rd; cases rv_bl re
    exact op_isnot_bl pins s σ H _ _ v u Q I rx ry ⟨_, _, rfl, rfl, stay q sm (.val (.bl _))⟩
  · cases hz
end
end DL

set_option maxRecDepth 100000
set_option maxHeartbeats 8000000
namespace DL
open PySem PySem.Spec PyProof.Rows L2
/-! ### running a meaning -/
theorem log2_lt {i : Int} {k : Nat} (h : i.natAbs < 2 ^ k) (hk : 0 < k) : i.natAbs.log2 < k := by
  by_cases z : i.natAbs = 0
  · rw [z]; simpa using hk
  · exact (Nat.log2_lt z).mpr h
abbrev NE : Str → Pn → Prop := fun _ _ => False
def wR {α : Type} (r : Res α) (E : Str → Pn → Prop) (Q : α → Pn → Prop) : Prop := match r with
  | .ok a π => Q a π
  | .exn n π => E n π
  | .bad => False
def wS (r : SRes) (N : List Sv → Pn → Prop) (R : Dv → Pn → Prop) (B C : List Sv → Pn → Prop) (E : Str → Pn → Prop) : Prop := match r with
  | .nx ρ π => N ρ π
  | .rt d π => R d π
  | .bk ρ π => B ρ π
  | .ct ρ π => C ρ π
  | .exn n _ π => E n π
  | .bad => False
def wO {α : Type} (o : Option α) (Q : α → Prop) : Prop := match o with
  | some z => Q z
  | none => False
class Pl (ds : List Dv) (es : outParam (List PyData)) : Prop where
  plain : DL.plain ds = some es
instance : Pl [] [] := ⟨rfl⟩
instance {d : PyData} {ds : List Dv} {es : List PyData} [h : Pl ds es] : Pl (.val d :: ds) (d :: es) := ⟨by unfold DL.plain; rw [h.plain]; rfl⟩
theorem ex_pl {ds : List Dv} {es : List PyData} [h : Pl ds es] {Q : List PyData → Prop} (hl : es.length ≤ 16777216) (q : Q es) : ∃ es, Pl ds es ∧ es.length ≤ 16777216 ∧ Q es := ⟨es, h, hl, q⟩
def wIf (b : Bool) (A B : Prop) : Prop := if b = true then A else B
section
variable {α β : Type} {E : Str → Pn → Prop} {N B C : List Sv → Pn → Prop} {R : Dv → Pn → Prop} {ρ : List Sv} {π : Pn}
theorem wR_mono {r : Res α} {E' : Str → Pn → Prop} {Q Q' : α → Pn → Prop} (h : wR r E Q) (q : ∀ a π, Q a π → Q' a π) (e : ∀ n π, E n π → E' n π) : wR r E' Q' := by
  cases r with
  | ok a π => exact q _ _ h
  | exn n π => exact e _ _ h
  | bad => exact h
theorem wR_bind {r : Res α} {k : α → Pn → Res β} {Q : β → Pn → Prop} (h : wR r E fun a π => wR (k a π) E Q) : wR (r.bind k) E Q := by
  cases r with
  | ok a π => exact h
  | exn n π => exact h
  | bad => exact h
theorem wS_then {r : Res α} {k : α → Pn → SRes} (h : wR r E fun a π => wS (k a π) N R B C E) : wS (thenS r ρ k) N R B C E := by
  cases r with
  | ok a π => exact h
  | exn n π => exact h
  | bad => exact h
theorem w_ite {b : Bool} {A B : Prop} (h1 : b = true → A) (h2 : b = false → B) : wIf b A B := by
  cases b with
  | true => exact h1 rfl
  | false => exact h2 rfl
theorem w_iteT {A B : Prop} (h : A) : wIf true A B := h
theorem w_iteF {A B : Prop} (h : B) : wIf false A B := h
theorem w_iteNT {A B : Prop} (h : B) : wIf (!true) A B := h
theorem w_iteNF {A B : Prop} (h : A) : wIf (!false) A B := h
theorem w_iteOT {b : Bool} {A B : Prop} (e : b = true) (h : A) : wIf b A B := by rw [e]; exact h
theorem w_iteOF {b : Bool} {A B : Prop} (e : b = false) (h : B) : wIf b A B := by rw [e]; exact h
theorem wR_if {b : Bool} {x y : Res α} {Q : α → Pn → Prop} (h : wIf b (wR x E Q) (wR y E Q)) : wR (if b = true then x else y) E Q := by
  cases b <;> exact h
theorem wS_if {b : Bool} {x y : SRes} (h : wIf b (wS x N R B C E) (wS y N R B C E)) : wS (if b = true then x else y) N R B C E := by
  cases b <;> exact h
theorem wR_ofO {o : Option α} {f : α → β} {Q : β → Pn → Prop} (h : wO o fun z => Q (f z) π) : wR (match o with | some z => .ok (f z) π | none => .bad) E Q := by
  cases o with
  | some z => exact h
  | none => exact h
-- statements
theorem w_seq {f g : SS} (h : wS (f ρ π) (fun ρ π => wS (g ρ π) N R B C E) R B C E) : wS (sSeq f g ρ π) N R B C E := by
  unfold sSeq
  cases q : f ρ π <;> rw [q] at h <;> exact h
theorem w_cut {f g : SS} (M : List Sv → Pn → Prop) (h1 : wS (f ρ π) M R B C E) (h2 : ∀ ρ π, M ρ π → wS (g ρ π) N R B C E) : wS (sSeq f g ρ π) N R B C E := by
  refine w_seq ?_
  cases q : f ρ π <;> rw [q] at h1
  · exact h2 _ _ h1
  all_goals exact h1
theorem w_skip (h : N ρ π) : wS (sSkip ρ π) N R B C E := h
theorem w_break (h : B ρ π) : wS (sBreak ρ π) N R B C E := h
theorem w_cont (h : C ρ π) : wS (sCont ρ π) N R B C E := h
theorem w_expr {f : SE Dv} (h : wR (f ρ π) E fun _ π => N ρ π) : wS (sExpr f ρ π) N R B C E := wS_then h
theorem w_ret {f : SE Dv} (h : wR (f ρ π) E fun d π => R d π) : wS (sRet f ρ π) N R B C E := wS_then h
theorem w_retN (h : R (.val .none) π) : wS (sRetN ρ π) N R B C E := h
theorem w_set {i : Nat} {f : SE Dv} (h : wR (f ρ π) E fun d π => N (ρ.set i (.val d)) π) : wS (sSet i f ρ π) N R B C E := wS_then h
theorem w_setO {i : Nat} {f : SE (List PyData)} (h : wR (f ρ π) E fun d π => N (ρ.set i (.own d)) π) : wS (sSetO i f ρ π) N R B C E := wS_then h
theorem w_if {c : SE Bool} {f g : SS} (h : wR (c ρ π) E fun b π => wIf b (wS (f ρ π) N R B C E) (wS (g ρ π) N R B C E)) : wS (sIf c f g ρ π) N R B C E :=
  wS_then (wR_mono h (fun b π x => wS_if x) fun _ _ x => x)
theorem w_raise {n : Str} (h : E n π) : wS (sRaise n ρ π) N R B C E := h
theorem w_frz {i : Nat} {f : SS} {ds : List PyData} (e : ρ[i]? = some (.own ds)) (h : wS (f (ρ.set i (.val (.val (.list ds)))) π) N R B C E) : wS (sFrz i f ρ π) N R B C E := by
  unfold sFrz; rw [e]; exact h
theorem w_retO {i : Nat} {ds : List PyData} (e : ρ[i]? = some (.own ds)) (h : R (.val (.list ds)) π) : wS (sRetO i ρ π) N R B C E := by
  unfold sRetO; rw [e]; exact h
theorem w_append {i : Nat} {f : SE Dv} {ds : List PyData} (e : ρ[i]? = some (.own ds)) (hl : ds.length < 16777216) (h : wR (f ρ π) E fun d π => ∃ y, d = .val y ∧ N (ρ.set i (.own (ds ++ [y]))) π) : wS (sAppend i f ρ π) N R B C E := by
  unfold sAppend; rw [e]
  refine wS_then (wR_mono h ?_ fun _ _ x => x)
  rintro _ π ⟨y, rfl, h⟩
  show wS (if ds.length < 16777216 then _ else _) N R B C E
  rw [if_pos hl]; exact h
theorem w_item {i : Nat} {fi fe : SE Dv} {ds : List PyData} (e : ρ[i]? = some (.own ds)) (h : wR (fe ρ π) E fun d π => wR (fi ρ π) E fun k π => ∃ y z j, d = .val y ∧ k = .val (.int z) ∧ ixN ds.length z = some j ∧ N (ρ.set i (.own (ds.set j y))) π) : wS (sItem i fi fe ρ π) N R B C E := by
  unfold sItem; rw [e]
  refine wS_then (wR_mono h (fun d π h => wS_then (wR_mono h ?_ fun _ _ x => x)) fun _ _ x => x)
  rintro _ π ⟨y, z, j, rfl, rfl, hj, h⟩
  simp only [hj]; exact h
theorem w_for {it : SE (List PyData)} {tg : PyData → List Sv → Option (List Sv)} {f : SS} (h : wR (it ρ π) E fun ds π => wS (forGo tg f ds ρ π) N R B C E) : wS (sFor it tg f ρ π) N R B C E := wS_then h
theorem w_go {tg : PyData → List Sv → Option (List Sv)} {f : SS} (I : List PyData → List Sv → Pn → Prop) (step : ∀ d r ρ π, I (d :: r) ρ π → wO (tg d ρ) fun ρ1 => wS (f ρ1 π) (I r) R N (I r) E) (fin : ∀ ρ π, I [] ρ π → N ρ π) :
    ∀ {ds : List PyData} {ρ : List Sv} {π : Pn}, I ds ρ π → wS (forGo tg f ds ρ π) N R B C E
  | [], ρ, π, h => fin ρ π h
  | d :: r, ρ, π, h => by
    have s := step d r ρ π h
    unfold forGo
    cases q : tg d ρ with
    | none => rw [q] at s; exact s.elim
    | some ρ1 =>
      rw [q] at s
      have s : wS (f ρ1 π) (I r) R N (I r) E := s
      show wS (match f ρ1 π with
        | .nx ρ2 π2 => forGo tg f r ρ2 π2
        | .ct ρ2 π2 => forGo tg f r ρ2 π2
        | .bk ρ2 π2 => .nx ρ2 π2
        | .rt d π2 => .rt d π2
        | .exn n ρ2 π2 => .exn n ρ2 π2
        | .bad => .bad) N R B C E
      cases p : f ρ1 π with
      | nx ρ2 π2 => rw [p] at s; exact w_go I step fin s
      | ct ρ2 π2 => rw [p] at s; exact w_go I step fin s
      | bk ρ2 π2 => rw [p] at s; exact s
      | rt d π2 => rw [p] at s; exact s
      | exn n ρ2 π2 => rw [p] at s; exact s
      | bad => rw [p] at s; exact s
theorem w_par {i j : Nat} {g : SE (List Dv)} (h : wR (g ρ π) E fun ds π => ∃ d e, ds = [d, e] ∧ N ((ρ.set i (.val d)).set j (.val e)) π) : wS (sPar i j g ρ π) N R B C E := by
  refine wS_then (wR_mono h ?_ fun _ _ x => x)
  rintro _ π ⟨d, e, rfl, h⟩; exact h
theorem w_unp {tg : PyData → List Sv → Option (List Sv)} {f : SE Dv} (h : wR (f ρ π) E fun d π => ∃ y, d = .val y ∧ wO (tg y ρ) fun ρ' => N ρ' π) : wS (sUnp tg f ρ π) N R B C E := by
  refine wS_then (wR_mono h ?_ fun _ _ x => x)
  rintro _ π ⟨y, rfl, h⟩
  show wS (match tg y ρ with | some ρ' => .nx ρ' π | none => .bad) N R B C E
  cases q : tg y ρ with
  | none => rw [q] at h; exact h
  | some ρ' => rw [q] at h; exact h
theorem w_run {n : Nat} {body : SS} {ds : List Dv} {Q : Dv → Pn → Prop} (h : wS (body (ds.map Sv.val ++ List.replicate (n - ds.length) .emp) π) (fun _ π => Q (.val .none) π) Q (fun _ _ => False) (fun _ _ => False) E) : wR (runF n body ds π) E Q := by
  unfold runF
  cases q : body (ds.map Sv.val ++ List.replicate (n - ds.length) .emp) π <;> rw [q] at h <;> exact h
-- expressions
theorem w_var {i : Nat} {d : Dv} {Q : Dv → Pn → Prop} (e : ρ[i]? = some (.val d)) (h : Q d π) : wR (eVar i ρ π) E Q := by
  unfold eVar; rw [e]; exact h
theorem w_k {d : PyData} {Q : Dv → Pn → Prop} (h : Q (.val d) π) : wR (eK d ρ π) E Q := h
theorem w_l2 {op : Dv → Dv → Option Dv} {f g : SE Dv} {Q : Dv → Pn → Prop} (h : wR (f ρ π) E fun d π => wR (g ρ π) E fun e π => wO (op d e) fun z => Q z π) : wR (lift2 op f g ρ π) E Q :=
  wR_bind (wR_mono h (fun d π h => wR_bind (wR_mono h (fun e π h => (by cases q0 : (op d e) with | none => (rw [q0] at h; exact h.elim) | some z0 => (rw [q0] at h; simp only [q0]; exact h))) fun _ _ x => x)) fun _ _ x => x)
theorem w_asB {f : SE Dv} {Q : Bool → Pn → Prop} (h : wR (f ρ π) E fun d π => ∃ b, d = .val (.bool b) ∧ Q b π) : wR (asB f ρ π) E Q := by
  refine wR_bind (wR_mono h ?_ fun _ _ x => x)
  rintro _ π ⟨b, rfl, h⟩; exact h
theorem w_asT {f : SE Dv} {Q : Bool → Pn → Prop} (h : wR (f ρ π) E fun d π => wO (dTru d) fun b => Q b π) : wR (asT f ρ π) E Q :=
  wR_bind (wR_mono h (fun d π h => (by cases q0 : (dTru d) with | none => (rw [q0] at h; exact h.elim) | some z0 => (rw [q0] at h; simp only [q0]; exact h))) fun _ _ x => x)
theorem w_tand {f g : SE Bool} {Q : Bool → Pn → Prop} (h : wR (f ρ π) E fun b π => wIf b (wR (g ρ π) E Q) (Q false π)) : wR (tAndF f g ρ π) E Q :=
  wR_bind (wR_mono h (fun b π h => by cases b <;> exact h) fun _ _ x => x)
theorem w_tor {f g : SE Bool} {Q : Bool → Pn → Prop} (h : wR (f ρ π) E fun b π => wIf b (Q true π) (wR (g ρ π) E Q)) : wR (tOrF f g ρ π) E Q :=
  wR_bind (wR_mono h (fun b π h => by cases b <;> exact h) fun _ _ x => x)
theorem w_tnot {f : SE Bool} {Q : Bool → Pn → Prop} (h : wR (f ρ π) E fun b π => Q (!b) π) : wR (tNotF f ρ π) E Q :=
  wR_bind (wR_mono h (fun b π h => h) fun _ _ x => x)
theorem w_isB {f : SE Dv} {k : Bool → List Sv → Pn → Res Dv} {Q : Dv → Pn → Prop} (h : wR (f ρ π) E fun d π => ∃ b, d = .val (.bool b) ∧ wR (k b ρ π) E Q) : wR (isB f k ρ π) E Q := by
  refine wR_bind (wR_mono h ?_ fun _ _ x => x)
  rintro _ π ⟨b, rfl, h⟩; exact h
theorem w_and {f g : SE Dv} {Q : Dv → Pn → Prop} (h : wR (f ρ π) E fun d π => ∃ b, d = .val (.bool b) ∧ wIf b (wR (g ρ π) E Q) (Q (.val (.bool false)) π)) : wR (eAnd f g ρ π) E Q :=
  w_isB (wR_mono h (fun d π ⟨b, e, h⟩ => ⟨b, e, by cases b <;> exact h⟩) fun _ _ x => x)
theorem w_or {f g : SE Dv} {Q : Dv → Pn → Prop} (h : wR (f ρ π) E fun d π => ∃ b, d = .val (.bool b) ∧ wIf b (Q (.val (.bool true)) π) (wR (g ρ π) E Q)) : wR (eOr f g ρ π) E Q :=
  w_isB (wR_mono h (fun d π ⟨b, e, h⟩ => ⟨b, e, by cases b <;> exact h⟩) fun _ _ x => x)
theorem w_not {f : SE Dv} {Q : Dv → Pn → Prop} (h : wR (f ρ π) E fun d π => ∃ b, d = .val (.bool b) ∧ Q (.val (.bool (!b))) π) : wR (eNot f ρ π) E Q :=
  w_isB (wR_mono h (fun d π ⟨b, e, h⟩ => ⟨b, e, h⟩) fun _ _ x => x)
theorem w_eif {c : SE Bool} {f g : SE Dv} {Q : Dv → Pn → Prop} (h : wR (c ρ π) E fun b π => wIf b (wR (f ρ π) E Q) (wR (g ρ π) E Q)) : wR (eIf c f g ρ π) E Q :=
  wR_bind (wR_mono h (fun b π h => wR_if h) fun _ _ x => x)
theorem w_nil {Q : List Dv → Pn → Prop} (h : Q [] π) : wR (aNil ρ π) E Q := h
theorem w_cons {f : SE Dv} {g : SE (List Dv)} {Q : List Dv → Pn → Prop} (h : wR (f ρ π) E fun d π => wR (g ρ π) E fun ds π => Q (d :: ds) π) : wR (aCons f g ρ π) E Q :=
  wR_bind (wR_mono h (fun d π h => wR_bind (wR_mono h (fun _ _ x => x) fun _ _ x => x)) fun _ _ x => x)
theorem w_disp {g : SE (List Dv)} {Q : List PyData → Pn → Prop} (h : wR (g ρ π) E fun ds π => ∃ es, Pl ds es ∧ es.length ≤ 16777216 ∧ Q es π) : wR (lDisp g ρ π) E Q := by
  refine wR_bind (wR_mono h ?_ fun _ _ x => x)
  rintro ds π ⟨es, e, l, h⟩
  simp only [e.plain]; rw [if_pos l]; exact h
theorem w_etup {g : SE (List Dv)} {Q : Dv → Pn → Prop} (h : wR (g ρ π) E fun ds π => ∃ es, Pl ds es ∧ es.length ≤ 16777216 ∧ Q (.val (.tuple es)) π) : wR (eTup g ρ π) E Q := by
  refine wR_bind (wR_mono h ?_ fun _ _ x => x)
  rintro ds π ⟨es, e, l, h⟩
  simp only [e.plain]; rw [if_pos l]; exact h
theorem w_efrz {f : SE (List PyData)} {Q : Dv → Pn → Prop} (h : wR (f ρ π) E fun ds π => Q (.val (.list ds)) π) : wR (eFrz f ρ π) E Q := wR_bind (wR_mono h (fun _ _ x => x) fun _ _ x => x)
theorem w_call {μ : Mu} {g : SE (List Dv)} {Q : Dv → Pn → Prop} (h : wR (g ρ π) E fun ds π => wR (μ ds π) E Q) : wR (eCall μ g ρ π) E Q := wR_bind h
theorem w_liftC {op : List Dv → Option Dv} {g : SE (List Dv)} {Q : Dv → Pn → Prop} (h : wR (g ρ π) E fun ds π => wO (op ds) fun z => Q z π) : wR (liftC op g ρ π) E Q :=
  wR_bind (wR_mono h (fun ds π h => (by cases q0 : (op ds) with | none => (rw [q0] at h; exact h.elim) | some z0 => (rw [q0] at h; simp only [q0]; exact h))) fun _ _ x => x)
theorem w_liftMS {op : Dv → List Dv → Option Dv} {f : SE Dv} {g : SE (List Dv)} {Q : Dv → Pn → Prop} (h : wR (f ρ π) E fun d π => ∃ x, d = .val (.str x) ∧ wR (g ρ π) E fun ds π => wO (op d ds) fun z => Q z π) : wR (liftMS op f g ρ π) E Q := by
  refine wR_bind (wR_mono h ?_ fun _ _ x => x)
  rintro _ π ⟨x, rfl, h⟩
  exact wR_bind (wR_mono h (fun ds π h => (by cases q0 : (op (.val (.str x)) ds) with | none => (rw [q0] at h; exact h.elim) | some z0 => (rw [q0] at h; simp only [q0]; exact h))) fun _ _ x => x)
theorem w_onone {Q : Option Int → Pn → Prop} (h : Q none π) : wR (oNone ρ π) E Q := h
theorem w_osome {f : SE Dv} {Q : Option Int → Pn → Prop} (h : wR (f ρ π) E fun d π => ∃ i, d = .val (.int i) ∧ Q (some i) π) : wR (oSome f ρ π) E Q := by
  refine wR_bind (wR_mono h ?_ fun _ _ x => x)
  rintro _ π ⟨i, rfl, h⟩; exact h
theorem w_slice {f : SE Dv} {l u : SE (Option Int)} {Q : Dv → Pn → Prop} (h : wR (f ρ π) E fun d π => wR (l ρ π) E fun lo π => wR (u ρ π) E fun hi π => wO (dSl lo hi d) fun z => Q z π) : wR (eSlice f l u ρ π) E Q :=
  wR_bind (wR_mono h (fun d π h => wR_bind (wR_mono h (fun lo π h => wR_bind (wR_mono h (fun hi π h => (by cases q0 : (dSl lo hi d) with | none => (rw [q0] at h; exact h.elim) | some z0 => (rw [q0] at h; simp only [q0]; exact h))) fun _ _ x => x)) fun _ _ x => x)) fun _ _ x => x)
theorem w_sliceK {f : SE Dv} {l u k : SE (Option Int)} {Q : Dv → Pn → Prop} (h : wR (f ρ π) E fun d π => wR (l ρ π) E fun lo π => wR (u ρ π) E fun hi π => wR (k ρ π) E fun st π => wO (dSlK lo hi st d) fun z => Q z π) : wR (eSliceK f l u k ρ π) E Q :=
  wR_bind (wR_mono h (fun d π h => wR_bind (wR_mono h (fun lo π h => wR_bind (wR_mono h (fun hi π h => wR_bind (wR_mono h (fun st π h => (by cases q0 : dSlK lo hi st d with | none => (rw [q0] at h; exact h.elim) | some z0 => (rw [q0] at h; simp only [q0]; exact h))) fun _ _ x => x)) fun _ _ x => x)) fun _ _ x => x)) fun _ _ x => x)
theorem w_gdict {kvs : List (Str × Str)} {f : SE Dv} {Q : Dv → Pn → Prop} (h : wR (f ρ π) E fun d π => ∃ x v, d = .val (.str x) ∧ kvs.lookup x = some v ∧ Q (.val (.str v)) π) : wR (eGdict kvs f ρ π) E Q := by
  refine wR_bind (wR_mono h ?_ fun _ _ x => x)
  rintro _ π ⟨x, v, rfl, e, h⟩
  simp only [e]; exact h
theorem w_idxO {i : Nat} {f : SE Dv} {ds : List PyData} {Q : Dv → Pn → Prop} (e : ρ[i]? = some (.own ds)) (h : wR (f ρ π) E fun k π => wO (dIdx (.val (.list ds)) k) fun z => Q z π) : wR (eIdxO i f ρ π) E Q := by
  unfold eIdxO; rw [e]
  exact wR_bind (wR_mono h (fun k π h => (by cases q0 : (dIdx (.val (.list ds)) k) with | none => (rw [q0] at h; exact h.elim) | some z0 => (rw [q0] at h; simp only [q0]; exact h))) fun _ _ x => x)
theorem w_lenO {i : Nat} {ds : List PyData} {Q : Dv → Pn → Prop} (e : ρ[i]? = some (.own ds)) (h : Q (.val (.int ds.length)) π) : wR (eLenO i ρ π) E Q := by
  unfold eLenO; rw [e]; exact h
theorem w_neg {f : SE Dv} {Q : Dv → Pn → Prop} (h : wR (f ρ π) E fun d π => ∃ i, d = .val (.int i) ∧ Q (.val (.int (-i))) π) : wR (eNeg f ρ π) E Q := by
  refine wR_bind (wR_mono h ?_ fun _ _ x => x)
  rintro _ π ⟨i, rfl, h⟩; exact h
theorem w_chain {o1 o2 : Dv → Dv → Option Dv} {f g k : SE Dv} {Q : Dv → Pn → Prop} (h : wR (f ρ π) E fun x π => wR (g ρ π) E fun y π => ∃ b, o1 x y = some (.val (.bool b)) ∧ wIf b (wR (k ρ π) E fun z π => wO (o2 y z) fun w => Q w π) (Q (.val (.bool false)) π)) : wR (eChain o1 o2 f g k ρ π) E Q := by
  refine wR_bind (wR_mono h (fun x π h => wR_bind (wR_mono h (fun y π h => ?_) fun _ _ x => x)) fun _ _ x => x)
  obtain ⟨b, e, h⟩ := h
  simp only [e]
  cases b with
  | true => exact wR_bind (wR_mono h (fun z π h => (by cases q0 : (o2 y z) with | none => (rw [q0] at h; exact h.elim) | some z0 => (rw [q0] at h; simp only [q0]; exact h))) fun _ _ x => x)
  | false => exact h
theorem w_seqI {f : SE Dv} {Q : List PyData → Pn → Prop} (h : wR (f ρ π) E fun d π => wO (itemsOf d) fun z => Q z π) : wR (iSeq f ρ π) E Q :=
  wR_bind (wR_mono h (fun d π h => (by cases q0 : (itemsOf d) with | none => (rw [q0] at h; exact h.elim) | some z0 => (rw [q0] at h; simp only [q0]; exact h))) fun _ _ x => x)
theorem w_rangeI1 {g : SE (List Dv)} {Q : List PyData → Pn → Prop} (h : wR (g ρ π) E fun ds π => ∃ j, ds = [.val (.int j)] ∧ -(2 ^ 62) ≤ j ∧ j < 2 ^ 62 ∧ Q (rngL 0 1 j.toNat) π) : wR (iRange g ρ π) E Q := by
  refine wR_bind (wR_mono h ?_ fun _ _ x => x)
  rintro _ π ⟨j, rfl, a, b, h⟩
  show wR (if _ then _ else _) E Q
  rw [if_pos ⟨a, b⟩]; exact h
theorem w_rangeI2 {g : SE (List Dv)} {Q : List PyData → Pn → Prop} (h : wR (g ρ π) E fun ds π => ∃ i j, ds = [.val (.int i), .val (.int j)] ∧ -(2 ^ 62) ≤ i ∧ i < 2 ^ 62 ∧ -(2 ^ 62) ≤ j ∧ j < 2 ^ 62 ∧ Q (rngL i 1 (j - i).toNat) π) : wR (iRange g ρ π) E Q := by
  refine wR_bind (wR_mono h ?_ fun _ _ x => x)
  rintro _ π ⟨i, j, rfl, a, b, c, d, h⟩
  show wR (if _ then _ else _) E Q
  rw [if_pos ⟨a, b, c, d⟩]; exact h
theorem w_enumI {f : SE Dv} {Q : List PyData → Pn → Prop} (h : wR (f ρ π) E fun d π => ∃ ds, d = .val (.list ds) ∧ Q (enumL ds) π) : wR (iEnum f ρ π) E Q := by
  refine wR_bind (wR_mono h ?_ fun _ _ x => x)
  rintro _ π ⟨ds, rfl, h⟩; exact h
theorem w_izipS {g : SE (List Dv)} {Q : List PyData → Pn → Prop} (h : wR (g ρ π) E fun ds π => ∃ x y, ds = [.val (.str x), .val (.str y)] ∧ Q (zipL (signs x) (signs y)) π) : wR (iZip g ρ π) E Q := by
  refine wR_bind (wR_mono h ?_ fun _ _ x => x)
  rintro _ π ⟨x, y, rfl, h⟩; exact h
theorem w_listL {f : SE Dv} {Q : List PyData → Pn → Prop} (h : wR (f ρ π) E fun d π => ∃ ds, d = .val (.list ds) ∧ Q ds π) : wR (lList f ρ π) E Q := by
  refine wR_bind (wR_mono h ?_ fun _ _ x => x)
  rintro _ π ⟨ds, rfl, h⟩; exact h
theorem w_comp {it : SE (List PyData)} {tg : PyData → List Sv → Option (List Sv)} {c : SE Bool} {f : SE Dv} {vs : List Nat} {Q : List PyData → Pn → Prop} (h : wR (it ρ π) E fun ds π => ds.length < 16777216 ∧ wR (compGo tg c f (wipeS ρ vs) ds π) E Q) : wR (lComp it tg c f vs ρ π) E Q := by
  refine wR_bind (wR_mono h ?_ fun _ _ x => x)
  rintro ds π ⟨l, h⟩
  show wR (if _ then _ else _) E Q
  rw [if_pos l]; exact h
theorem wR_noexn {r : Res α} {Q : α → Pn → Prop} (h : wR r NE Q) : wR (noexn r) E Q := by
  cases r with
  | ok a π => exact h
  | exn n π => exact h
  | bad => exact h
theorem w_cgo {tg : PyData → List Sv → Option (List Sv)} {c : SE Bool} {f : SE Dv} {Q : List PyData → Pn → Prop} (J : List PyData → List PyData → Pn → Prop)
    (step : ∀ d r acc π, J (d :: r) acc π → wO (tg d ρ) fun ρ1 => wR (c ρ1 π) NE fun b π => wIf b (wR (f ρ1 π) NE fun v π => ∃ y, v = .val y ∧ J r (acc ++ [y]) π) (J r acc π)) (fin : ∀ acc π, J [] acc π → Q acc π) :
    ∀ {ds acc : List PyData} {π : Pn}, J ds acc π → wR (compGo tg c f ρ ds π) E fun es π => Q (acc ++ es) π
  | [], acc, π, h => by
    show Q (acc ++ []) π
    rw [List.append_nil]; exact fin acc π h
  | d :: r, acc, π, h => by
    have s := step d r acc π h
    unfold compGo
    cases q : tg d ρ with
    | none => rw [q] at s; exact s.elim
    | some ρ1 =>
      rw [q] at s
      have s : wR (c ρ1 π) NE fun b π => wIf b (wR (f ρ1 π) NE fun v π => ∃ y, v = .val y ∧ J r (acc ++ [y]) π) (J r acc π) := s
      refine wR_bind (wR_noexn (wR_mono s ?_ fun _ _ x => x))
      intro b π1 s
      cases b with
      | false => exact w_cgo J step fin s
      | true =>
        refine wR_bind (wR_noexn (wR_mono s ?_ fun _ _ x => x))
        rintro _ π2 ⟨y, rfl, hj⟩
        refine wR_bind (wR_mono (w_cgo J step fin hj) ?_ fun _ _ x => x)
        intro es π3 h3
        show Q (acc ++ (y :: es)) π3
        rw [List.append_assoc] at h3; exact h3
theorem w_cgo0 {tg : PyData → List Sv → Option (List Sv)} {c : SE Bool} {f : SE Dv} {Q : List PyData → Pn → Prop} (J : List PyData → List PyData → Pn → Prop)
    (step : ∀ d r acc π, J (d :: r) acc π → wO (tg d ρ) fun ρ1 => wR (c ρ1 π) NE fun b π => wIf b (wR (f ρ1 π) NE fun v π => ∃ y, v = .val y ∧ J r (acc ++ [y]) π) (J r acc π)) (fin : ∀ acc π, J [] acc π → Q acc π)
    {ds : List PyData} (h : J ds [] π) : wR (compGo tg c f ρ ds π) E Q := by
  have := w_cgo (E := E) (Q := Q) J step fin h
  simpa using this
theorem w_yes {Q : Bool → Pn → Prop} (h : Q true π) : wR (tYesF ρ π) E Q := h
theorem w_dict2 {k1 v1 k2 v2 : Str} {f : SE Dv} {Q : Dv → Pn → Prop} (h : wR (f ρ π) E fun d π => (d = .val (.str k1) ∧ Q (.val (.str v1)) π) ∨ (k1 ≠ k2 ∧ d = .val (.str k2) ∧ Q (.val (.str v2)) π)) : wR (eDict2 k1 v1 k2 v2 f ρ π) E Q := by
  refine wR_bind (wR_mono h ?_ fun _ _ x => x)
  rintro _ π (⟨rfl, h⟩ | ⟨n, rfl, h⟩)
  · show wR (if k1 = k1 then _ else _) E Q
    rw [if_pos rfl]; exact h
  · show wR (if k2 = k1 then _ else _) E Q
    rw [if_neg fun z => n z.symm, if_pos rfl]; exact h
theorem w_isTy {T : String} {f : SE Dv} {Q : Dv → Pn → Prop} (h : wR (f ρ π) E fun d π => wO ((tyD d).bind fun t => kitB t T) fun b => Q (.val (.bool b)) π) : wR (eIsTy T f ρ π) E Q :=
  wR_bind (wR_mono h (fun d π h => (by cases q0 : ((tyD d).bind fun t => kitB t T) with | none => (rw [q0] at h; exact h.elim) | some z0 => (rw [q0] at h; simp only [q0]; exact h))) fun _ _ x => x)
theorem w_allIn {k : Str} {f : SE Dv} {Q : Dv → Pn → Prop} (h : wR (f ρ π) E fun d π => ∃ a : Str, d = .val (.str a) ∧ Q (.val (.bool (a.cps.toList.all fun c => decide (c ∈ k.cps.toList)))) π) : wR (eAllIn k f ρ π) E Q := by
  refine wR_bind (wR_mono h ?_ fun _ _ x => x)
  rintro _ π ⟨a, rfl, h⟩; exact h
-- the pen
variable {pe : PenS}
theorem w_pen0 {i : Nat} {Q : Dv → Pn → Prop} (e : ρ[i]? = some (.val .pen)) (h : Q (.val (.list (pe.cells.map PyData.int))) (some pe)) : wR (ePen i 0 ρ (some pe)) E Q := by
  unfold ePen; rw [e]; exact h
theorem w_pen1 {i : Nat} {Q : Dv → Pn → Prop} (e : ρ[i]? = some (.val .pen)) (h : Q (.val (.int pe.pos)) (some pe)) : wR (ePen i 1 ρ (some pe)) E Q := by
  unfold ePen; rw [e]; exact h
theorem w_pen2 {i : Nat} {Q : Dv → Pn → Prop} (e : ρ[i]? = some (.val .pen)) (h : Q (.val (.int pe.held)) (some pe)) : wR (ePen i 2 ρ (some pe)) E Q := by
  unfold ePen; rw [e]; exact h
theorem w_spen1 {i : Nat} {f : SE Dv} (e : ρ[i]? = some (.val .pen)) (h : wR (f ρ π) E fun d π => ∃ v pe, d = .val (.int v) ∧ π = some pe ∧ N ρ (some ⟨pe.cells, v, pe.held⟩)) : wS (sPen i 1 f ρ π) N R B C E := by
  refine wS_then (wR_mono h ?_ fun _ _ x => x)
  rintro _ _ ⟨v, pe, rfl, rfl, h⟩
  simp only [e]; exact h
theorem w_spen2 {i : Nat} {f : SE Dv} (e : ρ[i]? = some (.val .pen)) (h : wR (f ρ π) E fun d π => ∃ v pe, d = .val (.int v) ∧ π = some pe ∧ N ρ (some ⟨pe.cells, pe.pos, v⟩)) : wS (sPen i 2 f ρ π) N R B C E := by
  refine wS_then (wR_mono h ?_ fun _ _ x => x)
  rintro _ _ ⟨v, pe, rfl, rfl, h⟩
  simp only [e]; exact h
theorem w_retPen {i : Nat} {a b : Int} {ds : List PyData} {ns : List Int} (e : ρ[i]? = some (.own ds)) (q : intsOf ds = some ns) (h : R .pen (some ⟨ns, a, b⟩)) : wS (sRetPen i a b ρ none) N R B C E := by
  unfold sRetPen; rw [e]; simp only [q]; exact h
-- targets
theorem w_gN {i : Nat} {d : PyData} {Q : List Sv → Prop} (h : Q (ρ.set i (.val (.val d)))) : wO (gN i d ρ) Q := h
end
-- operations
section
variable {Q : Dv → Prop}
theorem o_w_addI {i j : Int} (h : Q (.val (.int (i + j)))) : wO (dAdd (.val (.int i)) (.val (.int j))) Q := h
theorem o_w_addS {x y : Str} (l : x.length + y.length ≤ 16777216) (h : Q (.val (.str (x ++ y)))) : wO (dAdd (.val (.str x)) (.val (.str y))) Q := by
  show wO (if _ then _ else _) Q
  rw [if_pos l]; exact h
theorem o_w_addL {x y : List PyData} (l : x.length + y.length ≤ 16777216) (h : Q (.val (.list (x ++ y)))) : wO (dAdd (.val (.list x)) (.val (.list y))) Q := by
  show wO (if _ then _ else _) Q
  rw [if_pos l]; exact h
theorem o_w_sub {i j : Int} (h : Q (.val (.int (i - j)))) : wO (dSub (.val (.int i)) (.val (.int j))) Q := h
theorem o_w_mulI {i j : Int} (hi : i.natAbs < 2 ^ 4000) (hj : j.natAbs < 2 ^ 4000) (h : Q (.val (.int (i * j)))) : wO (dMul (.val (.int i)) (.val (.int j))) Q := by
  have a := log2_lt hi (by decide)
  have b := log2_lt hj (by decide)
  show wO (if _ then _ else _) Q
  rw [if_pos (by omega)]; exact h
theorem o_w_fdiv {i j : Int} (hj : 0 < j) (h2 : j.natAbs < 2 ^ 4000) (h : Q (.val (.int (i / j)))) : wO (dFdiv (.val (.int i)) (.val (.int j))) Q := by
  have b := log2_lt h2 (by decide)
  show wO (if _ then _ else _) Q
  rw [if_pos ⟨hj, by omega⟩]; exact h
theorem o_w_mod {i j : Int} (hj : 0 < j) (h : Q (.val (.int (i % j)))) : wO (dMod (.val (.int i)) (.val (.int j))) Q := by
  show wO (if _ then _ else _) Q
  rw [if_pos hj]; exact h
theorem o_w_pow {i j : Int} (h0 : 0 ≤ j) (h1 : j ≤ 1000000) (h2 : i.natAbs < 2 ^ 64) (h : Q (.val (.int (i ^ j.toNat)))) : wO (dPow (.val (.int i)) (.val (.int j))) Q := by
  show wO (if _ then _ else _) Q
  rw [if_pos ⟨h0, h1, h2⟩]; exact h
theorem o_w_ints {p : Int → Int → Bool} {i j : Int} (h : Q (.val (.bool (p i j)))) : wO (dInts p (.val (.int i)) (.val (.int j))) Q := h
theorem o_w_eqI {i j : Int} (h : Q (.val (.bool (i == j)))) : wO (dEq (.val (.int i)) (.val (.int j))) Q := h
theorem o_w_neI {i j : Int} (h : Q (.val (.bool (!(i == j))))) : wO (dNe (.val (.int i)) (.val (.int j))) Q := h
theorem o_w_eqS {i j : Str} (h : Q (.val (.bool (i == j)))) : wO (dEq (.val (.str i)) (.val (.str j))) Q := h
theorem o_w_neS {i j : Str} (h : Q (.val (.bool (!(i == j))))) : wO (dNe (.val (.str i)) (.val (.str j))) Q := h
theorem o_w_eqB {i j : Bool} (h : Q (.val (.bool (i == j)))) : wO (dEq (.val (.bool i)) (.val (.bool j))) Q := h
theorem o_w_neB {i j : Bool} (h : Q (.val (.bool (!(i == j))))) : wO (dNe (.val (.bool i)) (.val (.bool j))) Q := h
theorem o_w_lenL {ds : List PyData} (h : Q (.val (.int ds.length))) : wO (bLen [.val (.list ds)]) Q := h
theorem o_w_lenS {x : Str} (l : x.length ≤ 16777216) (h : Q (.val (.int x.length))) : wO (bLen [.val (.str x)]) Q := by
  show wO (if _ then _ else _) Q
  rw [if_pos l]; exact h
theorem o_w_idxL {ds : List PyData} {i : Int} {d : PyData} (e : atI ds i = some d) (h : Q (.val d)) : wO (dIdx (.val (.list ds)) (.val (.int i))) Q := by
  show wO ((atI ds i).map Dv.val) Q
  rw [e]; exact h
theorem o_w_idxS {x : Str} {i : Int} {c : Nat} (l : x.length ≤ 16777216) (e : atI x.cps.toList i = some c) (h : Q (.val (.str ⟨#[c]⟩))) : wO (dIdx (.val (.str x)) (.val (.int i))) Q := by
  show wO (if _ then _ else _) Q
  rw [if_pos l, e]; exact h
end
theorem holds_of_w {μ : Mu} (h : ∀ ns : List Int, ns.length ≤ 63 → (∀ z ∈ ns, Builtin.Int.intBits z ≤ 1048576) → wR (μ [.scr ns] none) NE fun d _ => d = .val (.bool true)) : Holds μ := by
  intro ns l b
  have q := h ns l b
  cases e : μ [.scr ns] none with
  | ok a π => rw [e] at q; exact ⟨π, by rw [show a = _ from q]⟩
  | exn n π => rw [e] at q; exact q.elim
  | bad => rw [e] at q; exact q.elim

theorem slice_cut (a : List Nat) (lo hi : Option Int) : Txt.slice (SX.S a) lo hi = SX.S (cutD a lo hi) := by
  rw [← C8.cutS_slice]
  unfold cutS cutD
  rw [SX.S_len]
theorem cutD_toneg {α : Type} (xs : List α) {v : Int} (h : v < 0) : cutD xs none (some v) = xs.take (xs.length - (-v).toNat) := by
  unfold cutD
  rw [HT.sIx_none, List.drop_zero, Nat.sub_zero]
  show xs.take (if v < 0 then (v + (xs.length : Int)).toNat else _) = _
  rw [if_pos h]
  congr 1; omega
theorem o_w_truB {b : Bool} {Q : Bool → Prop} (h : Q b) : wO (dTru (.val (.bool b))) Q := h
theorem o_w_ty {d : Dv} {T : String} {Q : Bool → Prop} (b : Bool) (e : ((tyD d).bind fun t => kitB t T) = some b) (h : Q b) : wO ((tyD d).bind fun t => kitB t T) Q := by rw [e]; exact h
theorem o_w_some {α : Type} {o : Option α} {Q : α → Prop} (z : α) (e : o = some z) (h : Q z) : wO o Q := by rw [e]; exact h
theorem o_w_slS {lo hi : Option Int} {x : List Nat} {y : List Nat} {Q : Dv → Prop} (l : x.length ≤ 16777216) (e : Txt.slice (SX.S x) lo hi = SX.S y) (h : Q (.val (.str (SX.S y)))) : wO (dSl lo hi (.val (.str (SX.S x)))) Q := by
  show wO (if _ then _ else _) Q
  rw [if_pos (by rw [SX.S_len]; exact l), C8.cutS_slice, e]; exact h
theorem o_w_catS {x y : List Nat} {Q : Dv → Prop} (l : x.length + y.length ≤ 16777216) (h : Q (.val (.str (SX.S (x ++ y))))) : wO (dAdd (.val (.str (SX.S x))) (.val (.str (SX.S y)))) Q := by
  show wO (if _ then _ else _) Q
  rw [if_pos (by rw [SX.S_len, SX.S_len]; exact l), SX.S_cat]; exact h
theorem o_w_lenT {x : List Nat} {Q : Dv → Prop} (l : x.length ≤ 16777216) (h : Q (.val (.int x.length))) : wO (bLen [.val (.str (SX.S x))]) Q := by
  show wO (if _ then _ else _) Q
  rw [if_pos (by rw [SX.S_len]; exact l), SX.S_len]; exact h
theorem o_w_slL {lo hi : Option Int} {x : List PyData} {Q : Dv → Prop} (h : Q (.val (.list (cutD x lo hi)))) : wO (dSl lo hi (.val (.list x))) Q := h
theorem o_w_slN {lo hi : Option Int} {x : List Int} {Q : Dv → Prop} (h : Q (.val (.list (cutD (x.map PyData.int) lo hi)))) : wO (dSl lo hi (.scr x)) Q := h
theorem cutD_to {α : Type} (xs : List α) (k : Nat) : cutD xs none (some (k : Int)) = xs.take k := by
  unfold cutD
  rw [HT.sIx_none, HT.sIx_nat, List.drop_zero, Nat.sub_zero]
  by_cases h : k ≤ xs.length
  · rw [Nat.min_eq_left h]
  · rw [Nat.min_eq_right (by omega), List.take_length, List.take_of_length_le (by omega)]
theorem cutD_fromto {α : Type} (xs : List α) (j k : Nat) : cutD xs (some (j : Int)) (some (k : Int)) = (xs.take k).drop j := by
  unfold cutD
  rw [HT.sIx_nat, HT.sIx_nat, List.drop_take]
  by_cases h : j ≤ xs.length
  · rw [Nat.min_eq_left h]
    by_cases h2 : k ≤ xs.length
    · rw [Nat.min_eq_left h2]
    · rw [Nat.min_eq_right (show xs.length ≤ k by omega), List.take_of_length_le (by rw [List.length_drop]; omega), List.take_of_length_le (by rw [List.length_drop]; omega)]
  · rw [Nat.min_eq_right (show xs.length ≤ j by omega), List.drop_length, List.drop_eq_nil_of_le (show xs.length ≤ j by omega)]; simp
end DL

set_option maxRecDepth 100000
set_option maxHeartbeats 8000000
namespace DL
open PySem PySem.Spec PyProof.Rows L2
section
variable {ρ : List Sv} {π : Pn} {E : Str → Pn → Prop}
theorem w_isE {m : Str} {err : List (Str × List Str)} {f : SE Dv} {Q : Dv → Pn → Prop} (h : wR (f ρ π) E fun d π => ∃ n, d = .err n ∧ wO (err.lookup n) fun l => Q (.val (.bool (l.contains m))) π) : wR (eIsE m err f ρ π) E Q := by
  refine wR_bind (wR_mono h (fun a π1 x => ?_) fun _ _ x => x)
  obtain ⟨n, rfl, q⟩ := x
  cases e : err.lookup n with
  | none => rw [e] at q; exact q.elim
  | some l => rw [e] at q; simp only [e]; exact q
theorem w_isEs {ms : List Str} {err : List (Str × List Str)} {f : SE Dv} {Q : Dv → Pn → Prop} (h : wR (f ρ π) E fun d π => ∃ n, d = .err n ∧ wO (err.lookup n) fun l => Q (.val (.bool (ms.any fun m => l.contains m))) π) : wR (eIsEs ms err f ρ π) E Q := by
  refine wR_bind (wR_mono h (fun a π1 x => ?_) fun _ _ x => x)
  obtain ⟨n, rfl, q⟩ := x
  cases e : err.lookup n with
  | none => rw [e] at q; exact q.elim
  | some l => rw [e] at q; simp only [e]; exact q
theorem w_callD {μ : Mu} {g : SE (List Dv)} {Q : Dv → Pn → Prop} (h : wR (g ρ π) E fun ds π => wR (μ (ds ++ [.val .none]) π) E Q) : wR (eCallD μ g ρ π) E Q := wR_bind h
theorem w_lAdd {f g : SE Dv} {Q : List PyData → Pn → Prop} (h : wR (f ρ π) E fun d π => wR (g ρ π) E fun e π => ∃ xs ys, d = .val (.list xs) ∧ e = .val (.list ys) ∧ xs.length + ys.length ≤ 16777216 ∧ Q (xs ++ ys) π) : wR (lAdd f g ρ π) E Q := by
  refine wR_bind (wR_mono h (fun a π1 x => ?_) fun _ _ x => x)
  refine wR_bind (wR_mono x (fun b π2 y => ?_) fun _ _ x => x)
  obtain ⟨xs, ys, rfl, rfl, hl, q⟩ := y
  simp only [if_pos hl]; exact q
theorem w_lMul {f g : SE Dv} {Q : List PyData → Pn → Prop} (h : wR (f ρ π) E fun d π => wR (g ρ π) E fun e π => ∃ xs n, d = .val (.list xs) ∧ e = .val (.int n) ∧ (-1000000 ≤ n ∧ n ≤ 1000000 ∧ xs.length * n.toNat ≤ 16777216) ∧ Q (List.replicate n.toNat xs).flatten π) : wR (lMul f g ρ π) E Q := by
  refine wR_bind (wR_mono h (fun a π1 x => ?_) fun _ _ x => x)
  refine wR_bind (wR_mono x (fun b π2 y => ?_) fun _ _ x => x)
  obtain ⟨xs, n, rfl, rfl, hl, q⟩ := y
  simp only [if_pos hl]; exact q
theorem w_bitlen {f : SE Dv} {Q : Dv → Pn → Prop} (h : wR (f ρ π) E fun d π => ∃ i, d = .val (.int i) ∧ Q (.val (.int (Builtin.Int.intBits i : Nat))) π) : wR (eBitLen f ρ π) E Q := by
  refine wR_bind (wR_mono h (fun a π1 x => ?_) fun _ _ x => x)
  obtain ⟨i, rfl, q⟩ := x
  exact q
theorem o_w_band {i j : Int} {Q : Dv → Prop} (h : Q (.val (.int (Builtin.bitAnd i j)))) : wO (dBand (.val (.int i)) (.val (.int j))) Q := h
theorem o_w_shr {i j : Int} {Q : Dv → Prop} (hj : 0 ≤ j) (h : Q (.val (.int (i / 2 ^ j.toNat)))) : wO (dShr (.val (.int i)) (.val (.int j))) Q := by
  unfold dShr; simp only [if_pos hj]; exact h
theorem o_w_ltG2 {a b c d : Int} {Q : Dv → Prop} (h : Q (.val (.bool (HT.lexLt [a, b] [c, d])))) : wO (dLtG (.val (.tuple [.int a, .int b])) (.val (.tuple [.int c, .int d]))) Q := h
theorem w_liftML {op : Dv → List Dv → Option Dv} {f : SE Dv} {g : SE (List Dv)} {Q : Dv → Pn → Prop} (h : wR (f ρ π) E fun d π => ∃ x, d = .val (.list x) ∧ wR (g ρ π) E fun ds π => wO (op d ds) fun z => Q z π) : wR (liftML op f g ρ π) E Q := by
  refine wR_bind (wR_mono h (fun d π1 x => ?_) fun _ _ x => x)
  obtain ⟨x, rfl, h⟩ := x
  refine wR_bind (wR_mono h (fun ds π2 q => ?_) fun _ _ x => x)
  cases e : op (.val (.list x)) ds with
  | none => rw [e] at q; exact q.elim
  | some z => rw [e] at q; simp only [e]; exact q
/-- an exception leaves the slots as they were -/
class KeepX (f : SS) : Prop where
  keep : ∀ ρ π n ρ1 π1, f ρ π = .exn n ρ1 π1 → ρ1 = ρ
theorem then_exn {α : Type} {r : Res α} {k : α → Pn → SRes} {n : Str} {ρ1 : List Sv} {π1 : Pn} (h : thenS r ρ k = .exn n ρ1 π1) : ρ1 = ρ ∨ ∃ a π2, k a π2 = .exn n ρ1 π1 := by
  cases r with
  | ok a π2 => exact .inr ⟨a, π2, h⟩
  | exn m π2 => cases h; exact .inl rfl
  | bad => cases h
instance {i : Nat} {f : SE Dv} : KeepX (sSet i f) := ⟨fun ρ π n ρ1 π1 h => by
  rcases then_exn h with h | ⟨_, _, h⟩
  · exact h
  · cases h⟩
instance {f : SE Dv} : KeepX (sExpr f) := ⟨fun ρ π n ρ1 π1 h => by
  rcases then_exn h with h | ⟨_, _, h⟩
  · exact h
  · cases h⟩
instance {f : SE Dv} : KeepX (sRet f) := ⟨fun ρ π n ρ1 π1 h => by
  rcases then_exn h with h | ⟨_, _, h⟩
  · exact h
  · cases h⟩
instance {c : SE Bool} {f g : SS} [hf : KeepX f] [hg : KeepX g] : KeepX (sIf c f g) := ⟨fun ρ π n ρ1 π1 h => by
  rcases then_exn h with h | ⟨b, π2, h⟩
  · exact h
  · split at h
    · exact hf.keep _ _ _ _ _ h
    · exact hg.keep _ _ _ _ _ h⟩
theorem w_try {N : List Sv → Pn → Prop} {R : Dv → Pn → Prop} {B C : List Sv → Pn → Prop} {i : Nat} {m : Str} {err : List (Str × List Str)} {f g : SS} [hk : KeepX f]
    (h : wS (f ρ π) N R B C fun n π1 => wO (err.lookup n) fun l => l.contains m = true ∧ wS (g (ρ.set i (.val (.err n))) π1) (fun ρ2 π2 => N (ρ2.set i .emp) π2) R (fun _ _ => False) (fun _ _ => False) NE) : wS (sTry i m err f g ρ π) N R B C E := by
  unfold sTry
  cases e : f ρ π with
  | nx _ _ => rw [e] at h; exact h
  | rt _ _ => rw [e] at h; exact h
  | bk _ _ => rw [e] at h; exact h
  | ct _ _ => rw [e] at h; exact h
  | bad => rw [e] at h; exact h
  | exn n ρ1 π1 =>
    rw [e] at h
    have q : wO (err.lookup n) _ := h
    have ek := hk.keep _ _ _ _ _ e
    subst ek
    simp only
    cases e2 : err.lookup n with
    | none => rw [e2] at q; exact q.elim
    | some l =>
      rw [e2] at q
      obtain ⟨q1, q2⟩ := q
      simp only [if_pos q1]
      cases e3 : g (ρ1.set i (.val (.err n))) π1 with
      | nx _ _ => rw [e3] at q2; exact q2
      | rt _ _ => rw [e3] at q2; exact q2
      | bk _ _ => rw [e3] at q2; exact q2.elim
      | ct _ _ => rw [e3] at q2; exact q2.elim
      | exn _ _ _ => rw [e3] at q2; exact q2.elim
      | bad => rw [e3] at q2; exact q2.elim
end
end DL

set_option maxRecDepth 100000
set_option maxHeartbeats 2000000
namespace DL
open PySem PySem.Spec PyProof.Rows L2

/-! ### try .. except X: .. except Y: .., no name -/
def pickH (l : List Str) : List (Str × SS) → Option SS
  | [] => none
  | (m, g) :: r => if l.contains m = true then some g else pickH l r
def noExn : SRes → SRes
  | .exn _ _ _ => .bad
  | r => r
/-- try: f / except m: g .. (hs); errors of err that no clause takes do not come -/
def sTryM (hs : List (Str × SS)) (err : List (Str × List Str)) (f : SS) : SS := fun ρ π => match f ρ π with
  | .exn n ρ1 π1 => (match err.lookup n with
    | some l => (match pickH l hs with
      | some g => noExn (g ρ1 π1)
      | none => .bad)
    | none => .bad)
  | r => r
section
variable {X : Cx} {tb : Tb} {B : WX} {W0 : Wd} {H0 : Hp}
inductive HdM (X : Cx) (tb : Tb) (B0 : WX) (W0 : Wd) (H0 : Hp) (tst : List Str) : List ExceptHandler → List (Str × SS) → Prop
  | nil : HdM X tb B0 W0 H0 tst [] []
  | cons {m : Str} {g : SS} {s₁ : Stmt} {suite : List Stmt} {np pos' : Pos} {hds : List ExceptHandler} {l : List (Str × SS)} (ht : m ∈ tst)
      (hsu : ∀ (a : Addr) (pn : List (Addr × Obj)), PSs (X.suite a pn) (s₁ :: suite) (tS (Cx.md X tb) W0 H0 B0 g)) (hm : ∃ C, X.mg m = some (.ref C)) (r : HdM X tb B0 W0 H0 tst hds l) (hg : Gl X m := by rfl) (hd : (m == ("__debug__" : Str)) = false := by decide) :
      HdM X tb B0 W0 H0 tst (.ExceptHandler (some (.Name m np)) none (s₁ :: suite) pos' :: hds) ((m, g) :: l)
/-- the clauses with their classes -/
inductive Cls2 (X : Cx) (tb : Tb) (B0 : WX) (W0 : Wd) (H0 : Hp) (tst : List Str) : List (Str × SS) → List (Value × (Addr → Value → Option Addr → TS)) → Prop
  | nil : Cls2 X tb B0 W0 H0 tst [] []
  | cons {m : Str} {g : SS} {C : Addr} {l : List (Str × SS)} {k : List (Value × (Addr → Value → Option Addr → TS))} (ht : m ∈ tst) (hm : X.mg m = some (.ref C)) (r : Cls2 X tb B0 W0 H0 tst l k) :
      Cls2 X tb B0 W0 H0 tst ((m, g) :: l) ((.ref C, fun _ _ _ => tS (Cx.md X tb) W0 H0 B0 g) :: k)
theorem HdM.ok {B0 : WX} {tst : List Str} {hds : List ExceptHandler} {l : List (Str × SS)} (h : HdM X tb B0 W0 H0 tst hds l) : ∃ k, HdsOk X hds k ∧ Cls2 X tb B0 W0 H0 tst l k := by
  induction h with
  | nil => exact ⟨[], .nil, .nil⟩
  | cons ht hsu hm r hg hd ih =>
    obtain ⟨C, hC⟩ := hm
    obtain ⟨k, a, b⟩ := ih
    exact ⟨_, .cons ⟨hg, hd, .inl hC⟩ (fun a oe cls d pn _ _ => hsu a _) a, .cons ht hC b⟩
theorem s_tryM {h₀ : ExceptHandler} {hds : List ExceptHandler} {body : List Stmt} {p3 : Pos} {l : List (Str × SS)} {err : List (Str × List Str)} {tst : List Str} {f : SS} (ER : Errs X.K X.mg err tst) (hs : X.stack = X.env :: X.outer) (hf : X.env.frame = some X.env.locals)
    (hb : ∀ (W : WX) (pn : List (Addr × Obj)) (xe : Value → Shared → Prop), Takes (X.tr pn xe) W → PassesOwn (model X.prog X.w) X.A X.env xe → PSs (X.tr pn xe) body (tS (Cx.md X tb) W0 H0 W f))
    (hh : HdM X tb B0 W0 H0 tst (h₀ :: hds) l) :
    PS X (.Try body (h₀ :: hds) [] [] p3) (tS (Cx.md X tb) W0 H0 B (sTryM l err f)) := by
  obtain ⟨k, hk, hc⟩ := hh.ok
  refine PS.weak (ps_try_many (Wout := fun _ _ _ _ => False) hs hf takes_none5 hb hk) ?_
  rintro D σ H ⟨W, ρ, π, st, p⟩
  refine ⟨W, ρ, π, st, ?_⟩
  unfold sTryM at p
  cases e : f ρ π with
  | nx _ _ => rw [e] at p; exact p
  | rt _ _ => rw [e] at p; exact p
  | bk _ _ => rw [e] at p; exact p
  | ct _ _ => rw [e] at p; exact p
  | bad => rw [e] at p; exact p
  | exn nm ρ1 π1 =>
    rw [e] at p
    simp only at p
    cases e2 : err.lookup nm with
    | none => rw [e2] at p; exact p.elim
    | some ln =>
      rw [e2] at p
      simp only at p
      intro W1 H1 σ1 Cn r1 same hn
      have walk : ∀ {l : List (Str × SS)} {k : List (Value × (Addr → Value → Option Addr → TS))}, Cls2 X tb B0 W0 H0 tst l k → PostS (Cx.md X tb) W0 H0 B W.F D (match pickH ln l with | some g => noExn (g ρ1 π1) | none => .bad) →
          wMany X.K (fun _ _ _ _ => False) D k (.ref Cn) none σ1 H1 := by
        intro l k hlk
        induction hlk with
        | nil => intro p; exact p.elim
        | @cons m g C l k ht hm r ih =>
          intro p
          obtain ⟨C', hC', hx⟩ := ER.exm nm ln Cn m e2 hn ht
          rw [hm] at hC'; cases hC'
          refine ⟨_, hx, fun hy a na => ?_, fun hn => ?_⟩
          · unfold pickH at p
            rw [if_pos hy] at p
            have p : PostS (Cx.md X tb) W0 H0 B W.F D (noExn (g ρ1 π1)) := p
            refine ⟨W1, ρ1, π1, r1, ?_⟩
            cases e3 : g ρ1 π1 with
            | nx _ _ => rw [e3] at p; exact fun W2 H2 σ2 r2 s2 => p W2 H2 σ2 r2 (same.trans s2)
            | bk _ _ => rw [e3] at p; exact fun W2 H2 σ2 r2 s2 => p W2 H2 σ2 r2 (same.trans s2)
            | ct _ _ => rw [e3] at p; exact fun W2 H2 σ2 r2 s2 => p W2 H2 σ2 r2 (same.trans s2)
            | rt _ _ => rw [e3] at p; exact p
            | exn _ _ _ => rw [e3] at p; exact p.elim
            | bad => rw [e3] at p; exact p.elim
          · unfold pickH at p
            rw [if_neg (by rw [hn]; exact Bool.false_ne_true)] at p
            exact ih p
      exact walk hc p
end
section
variable {E : Str → Pn → Prop} {ρ : List Sv} {π : Pn}
theorem w_tryM {N : List Sv → Pn → Prop} {R : Dv → Pn → Prop} {Bk C : List Sv → Pn → Prop} {hs : List (Str × SS)} {err : List (Str × List Str)} {f : SS} [hk : KeepX f]
    (h : wS (f ρ π) N R Bk C fun n π1 => wO (err.lookup n) fun l => wO (pickH l hs) fun g => wS (g ρ π1) N R Bk C NE) : wS (sTryM hs err f ρ π) N R Bk C E := by
  unfold sTryM
  cases e : f ρ π with
  | nx _ _ => rw [e] at h; exact h
  | rt _ _ => rw [e] at h; exact h
  | bk _ _ => rw [e] at h; exact h
  | ct _ _ => rw [e] at h; exact h
  | bad => rw [e] at h; exact h
  | exn n ρ1 π1 =>
    rw [e] at h
    have q : wO (err.lookup n) _ := h
    have ek := hk.keep _ _ _ _ _ e
    subst ek
    simp only
    cases e2 : err.lookup n with
    | none => rw [e2] at q; exact q.elim
    | some l =>
      rw [e2] at q
      have q : wO (pickH l hs) _ := q
      simp only
      cases e3 : pickH l hs with
      | none => rw [e3] at q; exact q.elim
      | some g =>
        rw [e3] at q
        have q : wS (g ρ1 π1) N R Bk C NE := q
        simp only
        cases e4 : g ρ1 π1 with
        | nx _ _ => rw [e4] at q; exact q
        | rt _ _ => rw [e4] at q; exact q
        | bk _ _ => rw [e4] at q; exact q
        | ct _ _ => rw [e4] at q; exact q
        | exn _ _ _ => rw [e4] at q; exact q.elim
        | bad => rw [e4] at q; exact q.elim
end
end DL

set_option maxRecDepth 100000
set_option maxHeartbeats 2000000
namespace DL
open PySem PySem.Spec PyProof.Rows L2
section
variable {X : Cx} {tb : Tb}
/-! ### the least of a list -/
def leastOf (n : Int) : List Int → Int
  | [] => n
  | m :: r => leastOf (if m < n then m else n) r
theorem leastOf_ok : ∀ (ns : List Int) (n : Int), (leastOf n ns = n ∨ leastOf n ns ∈ ns) ∧ leastOf n ns ≤ n ∧ ∀ m ∈ ns, leastOf n ns ≤ m
  | [], n => ⟨.inl rfl, Int.le_refl _, fun _ h => absurd h List.not_mem_nil⟩
  | m :: r, n => by
    obtain ⟨h1, h2, h3⟩ := leastOf_ok r (if m < n then m else n)
    show (leastOf (if m < n then m else n) r = n ∨ leastOf (if m < n then m else n) r ∈ m :: r) ∧ leastOf (if m < n then m else n) r ≤ n ∧ ∀ k ∈ m :: r, leastOf (if m < n then m else n) r ≤ k
    generalize leastOf (if m < n then m else n) r = v at *
    refine ⟨?_, ?_, fun k hk => ?_⟩
    · rcases h1 with h1 | h1
      · by_cases h : m < n
        · rw [if_pos h] at h1; exact .inr (h1 ▸ List.mem_cons_self)
        · rw [if_neg h] at h1; exact .inl h1
      · exact .inr (List.mem_cons_of_mem _ h1)
    · by_cases h : m < n
      · rw [if_pos h] at h2; omega
      · rw [if_neg h] at h2; exact h2
    · rcases List.mem_cons.mp hk with rfl | hk
      · by_cases h : k < n
        · rw [if_pos h] at h2; exact h2
        · rw [if_neg h] at h2; omega
      · exact h3 k hk
def bMinL : List Dv → Option Dv
  | [.val (.list ds)] => (match intsOf ds with
    | some (n :: ns) => some (.val (.int (leastOf n ns)))
    | _ => none)
  | _ => none
theorem k_minL (hc : X.calm = true) : CallR X (.builtin "min") (rC (Cx.md X tb) bMinL) := by
  rintro pins s σ H xs us Q I r ⟨W, ds, z, sm, rd, hz, q⟩
  unfold bMinL at hz
  split at hz
  · rename_i ds
    obtain ⟨w, rfl, r1⟩ := rvl1 rd
    split at hz
    · rename_i n ns h
      cases hz
      obtain ⟨p, zs, rfl, ea, za, ra⟩ := rv_lst r1
      have e := ints_v ra h
      subst e
      refine cr_min hc pins s σ H _ us Q I r ⟨p, n :: ns, rfl, SqL.of (sm _ _ ea), Nat.succ_pos _, fun m hm hle => ?_⟩
      obtain ⟨h1, h2, h3⟩ := leastOf_ok ns n
      have : m = leastOf n ns := by
        have a1 : m ≤ leastOf n ns := by
          rcases h1 with h1 | h1
          · rw [h1]; exact hle n List.mem_cons_self
          · exact hle _ (List.mem_cons_of_mem _ h1)
        have a2 : leastOf n ns ≤ m := by
          rcases List.mem_cons.mp hm with rfl | hm
          · exact h2
          · exact h3 m hm
        omega
      subst this
      exact stay q sm (.val (.int _))
    · cases hz
  · cases hz
end
/-- the least of ascending numbers is the first -/
theorem o_w_minL {n : Int} {ns : List Int} {Q : Dv → Prop} (h : ∀ m ∈ ns, n ≤ m) (q : Q (.val (.int n))) : wO (bMinL [.val (.list ((n :: ns).map PyData.int))]) Q := by
  have e : ∀ l : List Int, intsOf (l.map PyData.int) = some l := fun l => by
    induction l with
    | nil => rfl
    | cons a l ih => show (intsOf (l.map PyData.int)).map (a :: ·) = _; rw [ih]; rfl
  have h1 : leastOf n ns = n := by
    obtain ⟨h1, h2, h3⟩ := leastOf_ok ns n
    rcases h1 with h1 | h1
    · exact h1
    · have := h _ h1; omega
  show wO (match intsOf ((n :: ns).map PyData.int) with | some (n :: ns) => some (.val (.int (leastOf n ns))) | _ => none) Q
  rw [e]
  show Q (.val (.int (leastOf n ns)))
  rw [h1]; exact q
/-! ### list of a text -/
section
variable {X : Cx} {tb : Tb} {B : WX}
theorem call_list_strS (hc : X.calm = true) : CallR X (.type "list") (fun xs H Q => ∃ x : Str, xs = [V.str x] ∧ x.length ≤ 16777216 ∧ ∀ q, H q = none → Q (.ref q) (upd H q (.lst (x.cps.toList.map fun c => V.str ⟨#[c]⟩)))) := by
  intro pins s σ H xs us Q I r h
  obtain ⟨x, e, hl, q⟩ := h
  subst e
  obtain ⟨u, eu, rx⟩ := vals1 r
  subst eu
  obtain ⟨t, rfl⟩ : ∃ t, u = Value.str x t := rx
  have hz : x.cps.size ≤ sizeLine := by rw [sizeLine_eq]; exact Nat.le_trans hl (by decide)
  refine PySem.call_list_str (hn := hz) (I.ok.hd hc) x t fun h' tk acc' c' hkeep hS hacc => ?_
  refine ⟨.ref s.heap.objs.size, upd H s.heap.objs.size (.lst (x.cps.toList.map fun c => V.str ⟨#[c]⟩)), I.laid hkeep (Nat.le_refl _) (show ObjOk X.prog X.w _ _ _ (.lst (x.cps.toList.map fun c => V.str ⟨#[c]⟩)) from ⟨?_, acc'.toList, c', ?_, ?_⟩), rfl, q _ (I.hok.fresh (Nat.le_refl _))⟩
  · rw [List.length_map, Array.length_toList]; exact hz
  · refine vals_of_at (by rw [List.length_map, Array.length_toList, Array.length_toList, hacc.1]) fun j y w h1 h2 => ?_
    obtain ⟨c, u, hky, hi⟩ := hacc.2 j w (by rw [← Array.getElem?_toList]; exact h2)
    rw [List.getElem?_map, Array.getElem?_toList, hky] at h1
    cases h1
    exact ⟨u, hi⟩
  · rw [Array.toArray_toList]; exact hS
def lListX (f : SE Dv) : SE (List PyData) := fun ρ π => (f ρ π).bind fun d π1 => match d with
  | .val (.list ds) => .ok ds π1
  | .val (.tuple ds) => .ok ds π1
  | .scr ns => .ok (ns.map PyData.int) π1
  | .val (.str x) => if x.length ≤ 16777216 then .ok (signs x) π1 else .bad
  | _ => .bad
def lListS (f : SE Dv) : SE (List PyData) := fun ρ π => (f ρ π).bind fun d π1 => match d with
  | .val (.str x) => if x.length ≤ 16777216 then .ok (signs x) π1 else .bad
  | _ => .bad
theorem DqAll.signs {F : Hp} : ∀ (l : List Nat), DqAll F (l.map fun c => V.str ⟨#[c]⟩) (l.map fun c => PyData.str ⟨#[c]⟩)
  | [] => .nil
  | c :: l => .cons (.str _) (DqAll.signs l)
theorem l_listS {p pos : Pos} {e : Expr} {f : SE Dv} (hc : X.calm = true) (hm : X.mg "list" = none) (he : PE X e (tE (Cx.md X tb) B f)) (hg : Gl X "list" := by rfl) (hs : starEach [e] X.env = (false, eval e X.env) :: starEach [] X.env := by rfl) (hpl : (backTo pos (starEach [] X.env)).any (·.1) = false := by rfl) :
    PE X (.Call (.Name "list" p) [e] [] pos) (tL (Cx.md X tb) B (lListS f)) := by
  refine PE.weak (pe_callTy (call_list_strS hc) hg hm (by decide +kernel) (pa_cons he pa_nil hs) (by decide) (by decide) hs hpl) ?_
  rintro σ H Q ⟨W, ρ, π, st, p⟩
  refine ⟨W, ρ, π, st, ?_⟩
  unfold lListS at p
  cases q : f ρ π with
  | bad => rw [q] at p; exact p
  | exn n π' => rw [q] at p; exact p
  | ok d π1 =>
    rw [q] at p
    intro W1 H1 v s1 pn1 sm1 r1
    show ∃ x, [v] = [V.str x] ∧ _
    cases r1 with
    | pen _ => exact p.elim
    | err _ _ => exact p.elim
    | dct _ _ _ => exact p.elim
    | fn _ => exact p.elim
    | scr ea za => exact p.elim
    | val r => cases r with
      | lst ea za ra => exact p.elim
      | tup ea za ra => exact p.elim
      | non => exact p.elim
      | bl _ => exact p.elim
      | int _ => exact p.elim
      | str x =>
        have p : PostL (Cx.md X tb) B W H σ Q (if x.length ≤ 16777216 then .ok (DL.signs x) π1 else .bad) := p
        by_cases h : x.length ≤ 16777216
        · rw [if_pos h] at p
          exact ⟨x, rfl, h, fun l nl => ownL p s1 pn1 sm1 nl (by rw [List.length_map, Array.length_toList, sizeLine_eq]; exact Nat.le_trans h (by decide)) (DqAll.signs _)⟩
        · rw [if_neg h] at p; exact p.elim
theorem l_listX {p0 pos : Pos} {e : Expr} {f : SE Dv} (hc : X.calm = true) (hm : X.mg "list" = none) (he : PE X e (tE (Cx.md X tb) B f)) (hg : Gl X "list" := by rfl) (hs : starEach [e] X.env = (false, eval e X.env) :: starEach [] X.env := by rfl) (hpl : (backTo pos (starEach [] X.env)).any (·.1) = false := by rfl) :
    PE X (.Call (.Name "list" p0) [e] [] pos) (tL (Cx.md X tb) B (lListX f)) := by
  refine ⟨fun pins s σ H R I ⟨W, ρ, π, st, p⟩ => ?_⟩
  unfold lListX at p
  cases q : f ρ π with
  | bad => rw [q] at p; exact p.elim
  | exn n π' => rw [q] at p; exact (l_list (p := p0) hm he hg hs hpl).run pins s σ H R I ⟨W, ρ, π, st, by unfold lList; rw [q]; exact p⟩
  | ok d π1 =>
    rw [q] at p
    have other : PostL (Cx.md X tb) B W H σ R (lList f ρ π) → _ := fun z => (l_list (p := p0) hm he hg hs hpl).run pins s σ H R I ⟨W, ρ, π, st, z⟩
    have text : PostL (Cx.md X tb) B W H σ R (lListS f ρ π) → _ := fun z => (l_listS (p := p0) hc hm he hg hs hpl).run pins s σ H R I ⟨W, ρ, π, st, z⟩
    match d, p, q with
    | .val (.str x), p, q => exact text (by unfold lListS; rw [q]; exact p)
    | .val (.list ds), p, q => exact other (by unfold lList; rw [q]; exact p)
    | .val (.tuple ds), p, q => exact other (by unfold lList; rw [q]; exact p)
    | .scr ns, p, q => exact other (by unfold lList; rw [q]; exact p)
    | .val (.int _), p, q => exact p.elim
    | .val (.bool _), p, q => exact p.elim
    | .val .none, p, q => exact p.elim
    | .val (.dict _), p, q => exact p.elim
    | .pen, p, q => exact p.elim
    | .err _, p, q => exact p.elim
    | .ppr _, p, q => exact p.elim
    | .dct _, p, q => exact p.elim
    | .fn _, p, q => exact p.elim
end
section
variable {E : Str → Pn → Prop} {ρ : List Sv} {π : Pn}
theorem w_listX {f : SE Dv} {Q : List PyData → Pn → Prop} (h : wR (f ρ π) E fun d π => ∃ x, d = .val (.str x) ∧ x.length ≤ 16777216 ∧ Q (signs x) π) : wR (lListX f ρ π) E Q := by
  refine wR_bind (wR_mono h ?_ fun _ _ x => x)
  rintro _ π ⟨x, rfl, h1, h⟩
  show wR (if _ then _ else _) E Q
  rw [if_pos h1]; exact h
end
end DL

set_option maxRecDepth 100000
set_option maxHeartbeats 8000000
namespace DL
open PySem PySem.Spec PyProof.Rows L2

/-! ### all([..]), gcd, tuple(..), sum(..) -/
def boolsOf : List PyData → Option (List Bool)
  | [] => some []
  | .bool i :: r => (boolsOf r).map (i :: ·)
  | _ :: _ => none
theorem bools_v {F : Hp} : ∀ {vs : List V} {ds : List PyData} {ns : List Bool}, DqAll F vs ds → boolsOf ds = some ns → vs = ns.map V.bl
  | _, _, xs, .nil, h => by cases h; rfl
  | _, _, xs, .cons r t, h => by
    cases r with
    | bl x =>
      unfold boolsOf at h
      cases q : boolsOf _ with
      | none => rw [q] at h; cases h
      | some l => rw [q] at h; cases h; rw [bools_v t q]; rfl
    | non => cases h
    | int _ => cases h
    | str _ => cases h
    | lst _ _ _ => cases h
    | tup _ _ _ => cases h
def bAll : List Dv → Option Dv
  | [.val (.list ds)] => (boolsOf ds).map fun bs => .val (.bool (bs.all id))
  | _ => none
def bAny : List Dv → Option Dv
  | [.val (.list ds)] => (boolsOf ds).map fun bs => .val (.bool (bs.any id))
  | _ => none
def bGcd : List Dv → Option Dv
  | [.val (.int a), .val (.int b)] => some (.val (.int ((Nat.gcd a.natAbs b.natAbs : Nat) : Int)))
  | _ => none
def bTuple : List Dv → Option Dv
  | [.val (.list ds)] => some (.val (.tuple ds))
  | [.val (.tuple ds)] => some (.val (.tuple ds))
  | _ => none
def bSum : List Dv → Option Dv
  | [.val (.list ds)] => (intsOf ds).map fun ns => .val (.int ns.sum)
  | _ => none
section
variable {X : Cx} {tb : Tb} {B : WX} {W0 : Wd} {H0 : Hp}
theorem k_all (hc : X.calm = true) : CallR X (.builtin "all") (rC (Cx.md X tb) bAll) := by
  rintro pins s σ H xs us Q I r ⟨W, ds, z, sm, rd, hz, q⟩
  unfold bAll at hz
  split at hz
  · rename_i ds
    obtain ⟨w, rfl, r1⟩ := rvl1 rd
    cases e : boolsOf ds with
    | none => rw [e] at hz; cases hz
    | some bs =>
      rw [e] at hz; cases hz
      obtain ⟨p, zs, rfl, ea, za, ra⟩ := rv_lst r1
      have e2 := bools_v ra e
      subst e2
      exact cr_all hc pins s σ H _ us Q I r ⟨p, bs, rfl, SqL.of (sm _ _ ea), stay q sm (.val (.bl _))⟩
  · cases hz
theorem k_any (hc : X.calm = true) : CallR X (.builtin "any") (rC (Cx.md X tb) bAny) := by
  rintro pins s σ H xs us Q I r ⟨W, ds, z, sm, rd, hz, q⟩
  unfold bAny at hz
  split at hz
  · rename_i ds
    obtain ⟨w, rfl, r1⟩ := rvl1 rd
    cases e : boolsOf ds with
    | none => rw [e] at hz; cases hz
    | some bs =>
      rw [e] at hz; cases hz
      obtain ⟨p, zs, rfl, ea, za, ra⟩ := rv_lst r1
      have e2 := bools_v ra e
      subst e2
      exact cr_any hc pins s σ H _ us Q I r ⟨p, bs, rfl, SqL.of (sm _ _ ea), stay q sm (.val (.bl _))⟩
  · cases hz
theorem k_sum (hc : X.calm = true) : CallR X (.builtin "sum") (rC (Cx.md X tb) bSum) := by
  rintro pins s σ H xs us Q I r ⟨W, ds, z, sm, rd, hz, q⟩
  unfold bSum at hz
  split at hz
  · rename_i ds
    obtain ⟨w, rfl, r1⟩ := rvl1 rd
    cases e : intsOf ds with
    | none => rw [e] at hz; cases hz
    | some bs =>
      rw [e] at hz; cases hz
      obtain ⟨p, zs, rfl, ea, za, ra⟩ := rv_lst r1
      have e2 := ints_v ra e
      subst e2
      exact cr_sum hc pins s σ H _ us Q I r ⟨p, bs, rfl, SqL.of (sm _ _ ea), stay q sm (.val (.int _))⟩
  · cases hz
theorem k_gcd : CallR X (.builtin "math.gcd") (rC (Cx.md X tb) bGcd) := by
  rintro pins s σ H xs us Q I r ⟨W, ds, z, sm, rd, hz, q⟩
  unfold bGcd at hz
  split at hz
  · obtain ⟨v, w, rfl, r1, r2⟩ := rvl2 rd
    cases hz; cases rv_int r1; cases rv_int r2
    exact cr_gcd pins s σ H _ us Q I r ⟨_, _, rfl, stay q sm (.val (.int _))⟩
  · cases hz
theorem k_tuple : CallR X (.type "tuple") (rC (Cx.md X tb) bTuple) := by
  rintro pins s σ H xs us Q I r ⟨W, ds, z, sm, rd, hz, q⟩
  unfold bTuple at hz
  split at hz
  · rename_i ds
    obtain ⟨w, rfl, r1⟩ := rvl1 rd
    cases hz
    obtain ⟨p, zs, rfl, ea, za, ra⟩ := rv_lst r1
    refine call_tupleZ pins s σ H _ us Q I r ⟨p, zs, rfl, SqL.of (sm _ _ ea), fun l o nl po => grow q sm nl ?_⟩
    have g := grows (o := .frz o (.tup zs)) (sm.free nl)
    exact .val (.tup upd_same po za (ra.mono g))
  · rename_i ds
    obtain ⟨w, rfl, r1⟩ := rvl1 rd
    cases hz
    obtain ⟨p, zs, rfl, ea, za, ra⟩ := rv_tup r1
    exact call_tuple_of pins s σ H _ us Q I r ⟨p, zs, rfl, .inr ⟨SqT_frz ea sm, stay q sm (.val (.tupE ea za ra))⟩⟩
  · cases hz
/-- a name that the module has imported -/
theorem e_callM {x : Str} {p pos : Pos} {e : Expr} {es : List Expr} {id : String} {op : List Dv → Option Dv} {g : SE (List Dv)} (hc : CallR X (.builtin id) (rC (Cx.md X tb) op)) (hm : X.mg x = some (.builtin id)) (ha : PA X (e :: es) (tA (Cx.md X tb) B g)) (hg : Gl X x := by rfl)
    (hdb : (x == ("__debug__" : Str)) = false := by decide) (he : starEach (e :: es) X.env = (false, eval e X.env) :: starEach es X.env := by rfl) (hpl : (backTo pos (starEach es X.env)).any (·.1) = false := by rfl) : PE X (.Call (.Name x p) (e :: es) [] pos) (tE (Cx.md X tb) B (liftC op g)) :=
  PE.weak (pe_callBfun hc hg hm ha hdb he hpl) c_imp

/-! ### {k: v, ..}[e], written entries -/
structure PDc (X : Cx) (pos : Pos) (keys : List (Option Expr)) (values : List Expr) (kvs : List (Str × PyData)) : Prop where
  ex : ∃ (trs : List (TE × TE)) (vs : List V), PPs X pos keys values trs ∧ (∀ σ H (Q : List (V × V) → Hp → Prop), Q ((kvs.map fun p => V.str p.1).zip vs) H → tPairs trs σ H Q) ∧ ∀ F, DqAll F vs (kvs.map (·.2))
/-- a written value -/
structure PVc (X : Cx) (e : Expr) (v : V) (d : PyData) : Prop where
  ex : ∃ t : TE, PE X e t ∧ (∀ σ H (Q : VK), Q v H → t σ H Q)
  rel : ∀ F, Dq F v d
theorem pv_int {i j pos} : PVc X (.Constant (.int i) j pos) (.int i) (.int i) := ⟨⟨_, pe_int, fun _ _ _ q => q⟩, fun _ => .int i⟩
theorem pv_str {x j pos} : PVc X (.Constant (.str x) j pos) (.str x) (.str x) := ⟨⟨_, pe_str, fun _ _ _ q => q⟩, fun _ => .str x⟩
theorem pv_bl {x j pos} : PVc X (.Constant (.bool x) j pos) (.bl x) (.bool x) := ⟨⟨_, pe_bl, fun _ _ _ q => q⟩, fun _ => .bl x⟩
theorem pv_neg {i j p pos} : PVc X (.UnaryOp .USub (.Constant (.int i) j p) pos) (.int (-i)) (.int (-i)) := ⟨⟨_, pe_un un_neg pe_int, fun _ _ _ q => ⟨_, rfl, q⟩⟩, fun _ => .int (-i)⟩
theorem pd_nil {pos : Pos} : PDc X pos [] [] [] := ⟨[], [], pps_nil, fun _ _ _ q => q, fun _ => .nil⟩
theorem pd_cons {pos : Pos} {k : Str} {j : Nat} {p : Pos} {v : Expr} {w : V} {d : PyData} {ks : List (Option Expr)} {vs : List Expr} {kvs : List (Str × PyData)} (hv : PVc X v w d) (hr : PDc X pos ks vs kvs) :
    PDc X pos (some (.Constant (.str k) j p) :: ks) (v :: vs) ((k, d) :: kvs) := by
  obtain ⟨trs, ws, h1, h2, h3⟩ := hr.ex
  obtain ⟨t, ht, hq⟩ := hv.ex
  exact ⟨(_, t) :: trs, w :: ws, pps_cons pe_str ht h1, fun σ H Q q => hq _ _ _ (h2 _ _ _ q), fun F => .cons (hv.rel F) (h3 F)⟩
def eDictC (kvs : List (Str × PyData)) (f : SE Dv) : SE Dv := fun ρ π => (f ρ π).bind fun d π1 => match d with
  | .val (.str x) => match kvs.lookup x with
    | some v => .ok (.val v) π1
    | none => .bad
  | _ => .bad
theorem merge_new : ∀ (more acc : List (Key × V)), ((acc ++ more).map (·.1)).Nodup → mergeK acc more = acc ++ more
  | [], acc, _ => by simp [mergeK]
  | p :: more, acc, h => by
    have e : putK acc p.1 p.2 = acc ++ [p] := by
      unfold putK
      rw [if_neg]
      intro z
      obtain ⟨q, hq, e⟩ := List.any_eq_true.mp z
      have e : q.1 = p.1 := of_decide_eq_true e
      rw [List.map_append, List.nodup_append] at h
      exact h.2.2 q.1 (List.mem_map_of_mem hq) p.1 (by simp) e
    unfold mergeK
    rw [List.foldl_cons, e]
    have := merge_new more (acc ++ [p]) (by rw [List.append_assoc]; exact h)
    unfold mergeK at this
    rw [this, List.append_assoc]; rfl
theorem val_zip {F : Hp} {x : Str} {d : PyData} : ∀ {kvs : List (Str × PyData)} {vs : List V}, DqAll F vs (kvs.map (·.2)) → kvs.lookup x = some d → ∃ v, valV ((kvs.map fun p => (Sum.inr p.1 : Key)).zip vs) (Sum.inr x) = some v ∧ Dq F v d
  | [], _, _, h => by cases h
  | (k, e) :: kvs, _, .cons r t, h => by
    rw [List.map_cons, List.zip_cons_cons]
    by_cases hk : k = x
    · subst hk
      rw [List.lookup_cons_self] at h
      cases h
      exact ⟨_, valV_pos rfl, r⟩
    · have hk2 : (x == k) = false := by
        rw [Bool.eq_false_iff]; intro z; exact hk ((beq_iff_eq.mp z).symm)
      rw [List.lookup_cons, hk2] at h
      obtain ⟨v, h1, h2⟩ := val_zip t h
      exact ⟨v, (valV_neg (p := ((Sum.inr k : Key), _)) fun z => hk (Sum.inr.inj z)).trans h1, h2⟩
theorem nodup_inr : ∀ {kvs : List (Str × PyData)}, (kvs.map (·.1)).Nodup → (kvs.map fun p => (Sum.inr p.1 : Key)).Nodup
  | [], _ => List.nodup_nil
  | p :: kvs, h => by
    rw [List.map_cons, List.nodup_cons] at h ⊢
    refine ⟨fun z => h.1 ?_, nodup_inr h.2⟩
    obtain ⟨q, hq, e⟩ := List.mem_map.mp z
    exact List.mem_map.mpr ⟨q, hq, Sum.inr.inj e⟩
theorem e_dictC {keys : List (Option Expr)} {values : List Expr} {kvs : List (Str × PyData)} {pd pos : Pos} {e : Expr} {f : SE Dv} (hu : X.A.units + 1 < cLine) (hp : PDc X pd keys values kvs) (hn : (kvs.map (·.1)).Nodup) (he : PE X e (tE (Cx.md X tb) B f))
    (hall : keys.all (·.isSome) = true := by rfl) (hl : keys.length = values.length := by rfl) (h0 : keys ≠ [] := by simp) (h15 : keys.length ≤ 15 := by decide) (h15' : kvs.length ≤ 15 := by decide) (hs : NoSl e := by exact fun _ _ => rfl) :
    PE X (.Subscript (.Dict keys values pd) e pos) (tE (Cx.md X tb) B (eDictC kvs f)) := by
  obtain ⟨trs, ws, h1, h2, h3⟩ := hp.ex
  refine PE.weak (pe_dget hu (pe_disp h1 hall hl h0 h15) he hs) ?_
  rintro σ H Q ⟨W, ρ, π, st, p⟩
  intro d nd
  refine h2 _ _ _ ?_
  have hwl : ws.length = kvs.length := by have := (h3 H).length; simpa using this
  have hkl : ((kvs.map fun p => (Sum.inr p.1 : Key)).zip ws).length ≤ 15 := by rw [List.length_zip, List.length_map, hwl, Nat.min_self]; exact h15'
  have hm : mergeK ([] : List (Key × V)) ((kvs.map fun p => (Sum.inr p.1 : Key)).zip ws) = (kvs.map fun p => (Sum.inr p.1 : Key)).zip ws := by
    rw [merge_new _ _ ?_]; · rfl
    rw [List.nil_append, List.map_fst_zip (by rw [List.length_map, hwl]; exact Nat.le_refl _)]
    exact nodup_inr hn
  refine ⟨upd_same, (kvs.map fun p => (Sum.inr p.1 : Key)).zip ws, ?_, hkl, ?_⟩
  · rw [List.map_zip_eq_zipWith, List.zip, List.zipWith_map_left, List.zipWith_map_left]; rfl
  rw [hm, upd_upd]
  obtain ⟨s0, pn0, sm0⟩ := freshOwn (o := .dK ((kvs.map fun p => (Sum.inr p.1 : Key)).zip ws)) st.same st.pen nd
  refine ⟨W, ρ, π, st.step s0 pn0 sm0, ?_⟩
  have npd : W.pa ≠ some d := st.pen.npa nd
  refine Post.bind (R' := Rv (Cx.md X tb)) (k := fun d π1 => match d with
    | .val (.str x) => match kvs.lookup x with
      | some v => .ok (.val v) π1
      | none => .bad
    | _ => .bad) (Post.step p s0) fun a π1 W1 H1 v s1 pn1 sm1 r1 p1 => ?_
  have hd : H1 d = some (.dK ((kvs.map fun p => (Sum.inr p.1 : Key)).zip ws)) := s1.keep _ _ upd_same npd fun _ z => nomatch z
  split at p1
  · rename_i x
    cases rv_str (X := X) r1
    split at p1
    · rename_i dv hlk
      obtain ⟨v, hv, rv⟩ := val_zip (h3 W1.F) hlk
      refine ⟨d, v, rfl, ?_, p1.now pn1 sm1 (.val rv)⟩
      have := DGet.k (k := (Sum.inr x : Key)) hd
      rwa [hv] at this
    · exact p1.elim
  · exact p1.elim

/-! ### found, x = [..], e: the first is held -/
def sParO (i j : Nat) (l : SE (List PyData)) (f : SE Dv) : SS := fun ρ π => thenS (l ρ π) ρ fun ds π1 => thenS (f ρ π1) ρ fun d π2 => .nx ((ρ.set i (.own ds)).set j (.val d)) π2
theorem s_parO (i j : Nat) {x y : Str} {a b : Expr} {px py pt : Pos} {kt k2 : Nat} {pt2 pos : Pos} {l : SE (List PyData)} {f : SE Dv} (hc : X.calm = true) (hN : X.N.Nodup) (ha : PE X a (tL (Cx.md X tb) B l)) (hb : PE X b (tE (Cx.md X tb) B f)) (hi : X.N[i]? = some x := by rfl) (hj : X.N[j]? = some y := by rfl) (hij : i ≠ j := by decide)
    (hx : X.env.scope.names.lookup x = some .local := by rfl) (hy : X.env.scope.names.lookup y = some .local := by rfl)
    (hw : swappedStores [.Tuple [.Name x px, .Name y py] kt pt] (.Tuple [a, b] k2 pt2) X.env = pure (some [x, y]) := by rfl) (hs : swapsWithSole [.Tuple [.Name x px, .Name y py] kt pt] (.Tuple [a, b] k2 pt2) pos.line X.env = pure false := by rfl)
    (s1 : starEach [a, b] X.env = (false, eval a X.env) :: starEach [b] X.env := by rfl) (s2 : starEach [b] X.env = (false, eval b X.env) :: starEach [] X.env := by rfl) :
    PS X (.Assign [.Tuple [.Name x px, .Name y py] kt pt] (.Tuple [a, b] k2 pt2) pos) (tS (Cx.md X tb) W0 H0 B (sParO i j l f)) := by
  refine PS.weak (ps_par hc hN hi hj hij hx hy (pa_cons ha (pa_cons hb pa_nil s2) s1) hw hs) ?_
  rintro D σ H ⟨W, ρ, π, st, p⟩
  refine ⟨W, ρ, π, st.st, ?_⟩
  unfold sParO at p
  cases e : l ρ π with
  | bad => rw [e] at p; exact p
  | exn n π' => rw [e] at p; exact fun W' H' C s pn sm ec => p W' H' σ C (st.step s pn sm) s.sub ec
  | ok ds π1 =>
    rw [e] at p
    intro W1 H1 q xs s1 pn1 sm1 n1 nf1 np1 e1 z1 r1
    have p : PostS (Cx.md X tb) W0 H0 B W.F D (thenS (f ρ π1) ρ fun d π2 => .nx ((ρ.set i (.own ds)).set j (.val d)) π2) := p
    have st1 := st.step s1 pn1 sm1
    refine ⟨W1, ρ, π1, st1.st, thenS_post st1 (p.weak s1.sub) fun d π2 W2 H2 v s2 r2 rv p2 => ?_⟩
    refine ⟨.ref q, v, rfl, ?_⟩
    have nf2 : W2.F q = none := by
      cases h : W2.F q with
      | none => rfl
      | some o =>
        rcases s2.grow q o h with k | k
        · rw [nf1] at k; cases k
        · rw [e1] at k; cases k
    have np2 : W2.pa ≠ some q := fun h => by
      rcases s2.newpa q h with k | k
      · exact np1 k
      · rw [e1] at k; cases k
    have e2 : H2 q = some (.lst xs) := s2.keep q _ e1 np1 .lst
    have so := st.setOwn i (s1.trans s2) r2.st.pen r2.st.same n1 nf2 np2 e2 z1 (r1.mono s2.sub)
    exact p2 W2 H2 _ (so.set j rv) (Same.refl _)
end

/-! ### running -/
section
variable {E : Str → Pn → Prop} {N : List Sv → Pn → Prop} {R : Dv → Pn → Prop} {B C : List Sv → Pn → Prop} {ρ : List Sv} {π : Pn}
theorem boolsOf_map : ∀ l : List Bool, boolsOf (l.map PyData.bool) = some l
  | [] => rfl
  | i :: l => by
    show (boolsOf (l.map PyData.bool)).map (i :: ·) = _
    rw [boolsOf_map l]; rfl
theorem o_w_all {bs : List Bool} {Q : Dv → Prop} (h : Q (.val (.bool (bs.all id)))) : wO (bAll [.val (.list (bs.map PyData.bool))]) Q := by
  show wO ((boolsOf (bs.map PyData.bool)).map fun bs => .val (.bool (bs.all id))) Q
  rw [boolsOf_map]; exact h
theorem o_w_any {bs : List Bool} {Q : Dv → Prop} (h : Q (.val (.bool (bs.any id)))) : wO (bAny [.val (.list (bs.map PyData.bool))]) Q := by
  show wO ((boolsOf (bs.map PyData.bool)).map fun bs => .val (.bool (bs.any id))) Q
  rw [boolsOf_map]; exact h
theorem o_w_gcd {a b : Int} {Q : Dv → Prop} (h : Q (.val (.int ((Nat.gcd a.natAbs b.natAbs : Nat) : Int)))) : wO (bGcd [.val (.int a), .val (.int b)]) Q := h
theorem o_w_tupleL {ds : List PyData} {Q : Dv → Prop} (h : Q (.val (.tuple ds))) : wO (bTuple [.val (.list ds)]) Q := h
theorem o_w_tupleT {ds : List PyData} {Q : Dv → Prop} (h : Q (.val (.tuple ds))) : wO (bTuple [.val (.tuple ds)]) Q := h
theorem intsOf_map : ∀ l : List Int, intsOf (l.map PyData.int) = some l
  | [] => rfl
  | i :: l => by
    show (intsOf (l.map PyData.int)).map (i :: ·) = _
    rw [intsOf_map l]; rfl
theorem o_w_sum {ns : List Int} {Q : Dv → Prop} (h : Q (.val (.int ns.sum))) : wO (bSum [.val (.list (ns.map PyData.int))]) Q := by
  show wO ((intsOf (ns.map PyData.int)).map fun ns => .val (.int ns.sum)) Q
  rw [intsOf_map]; exact h
theorem w_dictC {kvs : List (Str × PyData)} {f : SE Dv} {Q : Dv → Pn → Prop} (h : wR (f ρ π) E fun d π => ∃ x v, d = .val (.str x) ∧ kvs.lookup x = some v ∧ Q (.val v) π) : wR (eDictC kvs f ρ π) E Q := by
  refine wR_bind (wR_mono h ?_ fun _ _ h => h)
  rintro d π ⟨x, v, rfl, e, q⟩
  simp only [e]
  exact q
theorem w_parO {i j : Nat} {l : SE (List PyData)} {f : SE Dv} (h : wR (l ρ π) E fun ds π => wR (f ρ π) E fun d π => N ((ρ.set i (.own ds)).set j (.val d)) π) : wS (sParO i j l f ρ π) N R B C E :=
  wS_then (wR_mono h (fun _ _ h => wS_then h) fun _ _ h => h)
end
end DL

set_option maxRecDepth 100000
set_option maxHeartbeats 8000000
namespace DL
open PySem PySem.Spec PyProof.Rows L2
/-! ### a, b = .. and a, b, c = ..: any of them a list just made, which is held -/
section
variable {M : Md} {W0 W W' : Wd} {H0 H H' : Hp} {B : WX} {ρ : List Sv} {π π' : Pn} {σ : L2.St} {D : Ends}
theorem StR.push (r : StR M W0 H0 W H ρ π σ) : StR M W0 H0 W H (ρ ++ [.emp]) π (σ ++ [none]) := by
  have hl := r.st.len
  have get1 : ∀ (i : Nat) (s : Sv), (ρ ++ [Sv.emp])[i]? = some s → (ρ[i]? = some s ∧ (σ ++ [none])[i]? = σ[i]?) ∨ (s = .emp ∧ i = ρ.length) := fun i s h => by
    by_cases hi : i < ρ.length
    · rw [List.getElem?_append_left hi] at h
      exact .inl ⟨h, by rw [List.getElem?_append_left (by rw [← hl]; exact hi)]⟩
    · have : i = ρ.length := by
        have := (List.getElem?_eq_some_iff.mp h).1
        rw [List.length_append] at this
        simp at this; omega
      subst this
      rw [List.getElem?_concat_length] at h
      cases h; exact .inr ⟨rfl, rfl⟩
  refine ⟨⟨r.st.same, r.st.pen, r.st.tbe, by simp [hl], fun i s e => ?_, fun i j a ds es h1 h2 h3 h4 => ?_⟩, r.go, fun i a ds h1 h2 => ?_⟩
  · rcases get1 i s e with ⟨h, e2⟩ | ⟨rfl, rfl⟩
    · obtain ⟨o, g1, g2⟩ := r.st.sl i s h
      exact ⟨o, by rw [e2]; exact g1, g2⟩
    · exact ⟨none, by rw [hl, List.getElem?_concat_length], .emp⟩
  · rcases get1 i _ h1 with ⟨h1, e1⟩ | ⟨z, _⟩
    · rcases get1 j _ h2 with ⟨h2, e2⟩ | ⟨z, _⟩
      · rw [e1] at h3; rw [e2] at h4
        exact r.st.apart i j a ds es h1 h2 h3 h4
      · cases z
    · cases z
  · rcases get1 i _ h1 with ⟨h1, e1⟩ | ⟨z, _⟩
    · rw [e1] at h2; exact r.new i a ds h1 h2
    · cases z
theorem StR.perm {ρ' : List Sv} {σ' : L2.St} (r : StR M W0 H0 W H ρ π σ) (m : Nat → Nat) (hl : ρ'.length = σ'.length) (h : ∀ k s, ρ'[k]? = some s → ρ[m k]? = some s ∧ σ'[k]? = σ[m k]?) (inj : ∀ k l, k < ρ'.length → l < ρ'.length → m k = m l → k = l) : StR M W0 H0 W H ρ' π σ' := by
  have lt : ∀ {k : Nat} {s : Sv}, ρ'[k]? = some s → k < ρ'.length := fun h => (List.getElem?_eq_some_iff.mp h).1
  refine ⟨⟨r.st.same, r.st.pen, r.st.tbe, hl, fun i s e => ?_, fun i j a ds es h1 h2 h3 h4 => ?_⟩, r.go, fun i a ds h1 h2 => ?_⟩
  · obtain ⟨g1, g2⟩ := h i s e
    obtain ⟨o, k1, k2⟩ := r.st.sl _ s g1
    exact ⟨o, by rw [g2]; exact k1, k2⟩
  · obtain ⟨g1, g2⟩ := h i _ h1
    obtain ⟨g3, g4⟩ := h j _ h2
    rw [g2] at h3; rw [g4] at h4
    exact inj i j (lt h1) (lt h2) (r.st.apart _ _ a ds es g1 g3 h3 h4)
  · obtain ⟨g1, g2⟩ := h i _ h1
    rw [g2] at h2
    exact r.new _ a ds g1 h2
theorem set_concat {α : Type} (l : List α) (x y : α) : (l ++ [x]).set l.length y = l ++ [y] := by
  rw [List.set_append_right _ _ (Nat.le_refl _), Nat.sub_self]; rfl
theorem StR.pushVal {v : V} {d : Dv} (r : StR M W0 H0 W H ρ π σ) (rv : Rv M W v d) : StR M W0 H0 W H (ρ ++ [.val d]) π (σ ++ [some v]) := by
  have := r.push.set ρ.length rv
  rwa [set_concat, r.st.len, set_concat] at this
theorem StR.pushOwn {a : Addr} {xs : List V} {ds : List PyData} (r : StR M W0 H0 W H ρ π σ) (s : Step W H W' H') (p : PenOk W' H' π') (sm : Same W'.F H') (n : H a = none) (nf : W'.F a = none) (np : W'.pa ≠ some a) (e : H' a = some (.lst xs))
    (z : xs.length ≤ sizeLine) (q : DqAll W'.F xs ds) : StR M W0 H0 W' H' (ρ ++ [.own ds]) π' (σ ++ [some (.ref a)]) := by
  have := r.push.setOwn ρ.length s p sm n nf np e z q
  rwa [set_concat, r.st.len, set_concat] at this
end
def mVal (f : SE Dv) : SE Sv := fun ρ π => (f ρ π).bind fun d π1 => .ok (.val d) π1
def mOwn (l : SE (List PyData)) : SE Sv := fun ρ π => (l ρ π).bind fun ds π1 => .ok (.own ds) π1
/-- an expression that gives a value or a list just made -/
structure PM (X : Cx) (tb : Tb) (B : WX) (e : Expr) (m : SE Sv) : Prop where
  ex : ∃ t : TE, PE X e t ∧ ∀ (W0 : Wd) (H0 : Hp) (σ σx : L2.St) (H : Hp) (Q : VK) (W : Wd) (ρ ρx : List Sv) (π : Pn) (D : Ends) (k : Sv → Pn → SRes), StR (Cx.md X tb) W0 H0 W H ρ π σ → StR (Cx.md X tb) W0 H0 W H ρx π σx → PostS (Cx.md X tb) W0 H0 B W.F D (thenS (m ρ π) ρ k) →
    (∀ s π' W' H' v, StR (Cx.md X tb) W0 H0 W' H' ρ π' σ → StR (Cx.md X tb) W0 H0 W' H' (ρx ++ [s]) π' (σx ++ [some v]) → PostS (Cx.md X tb) W0 H0 B W'.F D (k s π') → Q v H') → t σ H Q
section
variable {X : Cx} {tb : Tb} {B : WX} {W0 : Wd} {H0 : Hp}
theorem pm_val {e : Expr} {f : SE Dv} (h : PE X e (tE (Cx.md X tb) B f)) : PM X tb B e (mVal f) := by
  refine ⟨_, h, fun W0 H0 σ σx H Q W ρ ρx π D k st sx p q => ⟨W, ρ, π, st.st, ?_⟩⟩
  have p : PostS (Cx.md X tb) W0 H0 B W.F D (thenS (f ρ π) ρ fun d π1 => k (.val d) π1) := by
    unfold mVal at p
    cases e : f ρ π with
    | ok d π1 => rw [e] at p; exact p
    | exn n π1 => rw [e] at p; exact p
    | bad => rw [e] at p; exact p
  exact thenS_post st p fun d π' W' H' v s r rv p2 => q _ π' W' H' v r ((sx.step s r.st.pen r.st.same).pushVal rv) p2
theorem pm_own {e : Expr} {l : SE (List PyData)} (h : PE X e (tL (Cx.md X tb) B l)) : PM X tb B e (mOwn l) := by
  refine ⟨_, h, fun W0 H0 σ σx H Q W ρ ρx π D k st sx p q => ⟨W, ρ, π, st.st, ?_⟩⟩
  unfold mOwn at p
  cases e : l ρ π with
  | bad => rw [e] at p; exact p
  | exn n π1 => rw [e] at p; exact fun W' H' C s pn sm ec => p W' H' σ C (st.step s pn sm) s.sub ec
  | ok ds π1 =>
    rw [e] at p
    have p : PostS (Cx.md X tb) W0 H0 B W.F D (k (.own ds) π1) := p
    exact fun W' H' a xs s pn sm n nf np eq z r => q _ π1 W' H' _ (st.step s pn sm) (sx.pushOwn s pn sm n nf np eq z r) (p.weak s.sub)
def sPar2 (i j : Nat) (a b : SE Sv) : SS := fun ρ π => thenS (a ρ π) ρ fun s1 π1 => thenS (b ρ π1) ρ fun s2 π2 => .nx ((ρ.set i s1).set j s2) π2
def sPar3 (i j l : Nat) (a b c : SE Sv) : SS := fun ρ π => thenS (a ρ π) ρ fun s1 π1 => thenS (b ρ π1) ρ fun s2 π2 => thenS (c ρ π2) ρ fun s3 π3 => .nx (((ρ.set i s1).set j s2).set l s3) π3
theorem get_set2 {α : Type} {l : List α} {i k : Nat} {x : α} (hk : k < l.length) : (l.set i x)[k]? = if k = i then some x else l[k]? := by
  by_cases h : k = i
  · subst h; rw [if_pos rfl, List.getElem?_set_self hk]
  · rw [if_neg h, List.getElem?_set_ne (fun z => h z.symm)]
theorem ext_get {α : Type} {l : List α} {n : Nat} {x : α} (h : n = l.length) : (l ++ [x])[n]? = some x := by subst h; exact List.getElem?_concat_length
theorem s_par2 (i j : Nat) {x y : Str} {a b : Expr} {px py pt : Pos} {kt k2 : Nat} {pt2 pos : Pos} {f g : SE Sv} (hc : X.calm = true) (hN : X.N.Nodup) (ha : PM X tb B a f) (hb : PM X tb B b g) (hi : X.N[i]? = some x := by rfl) (hj : X.N[j]? = some y := by rfl) (hij : i ≠ j := by decide)
    (hx : X.env.scope.names.lookup x = some .local := by rfl) (hy : X.env.scope.names.lookup y = some .local := by rfl)
    (hw : swappedStores [.Tuple [.Name x px, .Name y py] kt pt] (.Tuple [a, b] k2 pt2) X.env = pure (some [x, y]) := by rfl) (hs : swapsWithSole [.Tuple [.Name x px, .Name y py] kt pt] (.Tuple [a, b] k2 pt2) pos.line X.env = pure false := by rfl)
    (s1 : starEach [a, b] X.env = (false, eval a X.env) :: starEach [b] X.env := by rfl) (s2 : starEach [b] X.env = (false, eval b X.env) :: starEach [] X.env := by rfl) :
    PS X (.Assign [.Tuple [.Name x px, .Name y py] kt pt] (.Tuple [a, b] k2 pt2) pos) (tS (Cx.md X tb) W0 H0 B (sPar2 i j f g)) := by
  obtain ⟨t1, h1, q1⟩ := ha.ex
  obtain ⟨t2, h2, q2⟩ := hb.ex
  refine PS.weak (ps_par hc hN hi hj hij hx hy (pa_cons h1 (pa_cons h2 pa_nil s2) s1) hw hs) ?_
  rintro D σ H ⟨W, ρ, π, st, p⟩
  refine q1 W0 H0 σ σ H _ W ρ ρ π D _ st st p fun sa π1 W1 H1 v r1 x1 p1 => ?_
  refine q2 W0 H0 σ _ H1 _ W1 ρ _ π1 D _ r1 x1 p1 fun sb π2 W2 H2 w r2 x2 p2 => ?_
  refine ⟨v, w, rfl, ?_⟩
  have hl := st.st.len
  refine p2 W2 H2 _ (x2.perm (fun k => if k = j then ρ.length + 1 else if k = i then ρ.length else k) (by simp [hl]) (fun k s e => ?_) (fun k l hk hl e => ?_)) (Same.refl _)
  · have hk : k < ρ.length := by have := (List.getElem?_eq_some_iff.mp e).1; simpa using this
    have hk' : k < σ.length := by rw [← hl]; exact hk
    rw [get_set2 (by rw [List.length_set]; exact hk), get_set2 hk] at e
    rw [get_set2 (by rw [List.length_set]; exact hk'), get_set2 hk']
    by_cases c1 : k = j
    · simp only [c1, if_true] at e ⊢
      cases e
      exact ⟨ext_get (by simp), (ext_get (by simp [hl])).symm⟩
    · simp only [c1, if_false] at e ⊢
      by_cases c2 : k = i
      · simp only [c2, if_true] at e ⊢
        cases e
        exact ⟨by rw [List.getElem?_append_left (by simp)]; exact ext_get rfl, by rw [List.getElem?_append_left (by simp [hl])]; exact (ext_get (by simp [hl])).symm⟩
      · simp only [c2, if_false] at e ⊢
        refine ⟨?_, ?_⟩
        · rw [List.getElem?_append_left (by simp; omega), List.getElem?_append_left hk]; exact e
        · rw [List.getElem?_append_left (by simp; omega), List.getElem?_append_left hk']
  · simp only [List.length_set] at hk hl
    (repeat' split at e) <;> omega
theorem s_par3 (i j l : Nat) {x y z : Str} {a b c : Expr} {px py pz pt : Pos} {kt k2 : Nat} {pt2 pos : Pos} {f g h : SE Sv} (hc : X.calm = true) (hN : X.N.Nodup) (ha : PM X tb B a f) (hb : PM X tb B b g) (hcc : PM X tb B c h) (hi : X.N[i]? = some x := by rfl) (hj : X.N[j]? = some y := by rfl) (hl : X.N[l]? = some z := by rfl) (hij : i ≠ j := by decide) (hil : i ≠ l := by decide) (hjl : j ≠ l := by decide)
    (hx : X.env.scope.names.lookup x = some .local := by rfl) (hy : X.env.scope.names.lookup y = some .local := by rfl) (hz : X.env.scope.names.lookup z = some .local := by rfl)
    (hw : swappedStores [.Tuple [.Name x px, .Name y py, .Name z pz] kt pt] (.Tuple [a, b, c] k2 pt2) X.env = pure (some [x, y, z]) := by rfl) (hs : swapsWithSole [.Tuple [.Name x px, .Name y py, .Name z pz] kt pt] (.Tuple [a, b, c] k2 pt2) pos.line X.env = pure false := by rfl)
    (s1 : starEach [a, b, c] X.env = (false, eval a X.env) :: starEach [b, c] X.env := by rfl) (s2 : starEach [b, c] X.env = (false, eval b X.env) :: starEach [c] X.env := by rfl) (s3 : starEach [c] X.env = (false, eval c X.env) :: starEach [] X.env := by rfl) :
    PS X (.Assign [.Tuple [.Name x px, .Name y py, .Name z pz] kt pt] (.Tuple [a, b, c] k2 pt2) pos) (tS (Cx.md X tb) W0 H0 B (sPar3 i j l f g h)) := by
  obtain ⟨t1, h1, q1⟩ := ha.ex
  obtain ⟨t2, h2, q2⟩ := hb.ex
  obtain ⟨t3, h3, q3⟩ := hcc.ex
  refine PS.weak (ps_par3 hc hN hi hj hl hij hil hjl hx hy hz (pa_cons h1 (pa_cons h2 (pa_cons h3 pa_nil s3) s2) s1) hw hs) ?_
  rintro D σ H ⟨W, ρ, π, st, p⟩
  refine q1 W0 H0 σ σ H _ W ρ ρ π D _ st st p fun sa π1 W1 H1 v r1 x1 p1 => ?_
  refine q2 W0 H0 σ _ H1 _ W1 ρ _ π1 D _ r1 x1 p1 fun sb π2 W2 H2 w r2 x2 p2 => ?_
  refine q3 W0 H0 σ _ H2 _ W2 ρ _ π2 D _ r2 x2 p2 fun sc π3 W3 H3 u r3 x3 p3 => ?_
  refine ⟨v, w, u, rfl, ?_⟩
  have hln := st.st.len
  refine p3 W3 H3 _ (x3.perm (fun k => if k = l then ρ.length + 2 else if k = j then ρ.length + 1 else if k = i then ρ.length else k) (by simp [hln]) (fun k s e => ?_) (fun k m hk hm e => ?_)) (Same.refl _)
  · have hk : k < ρ.length := by have := (List.getElem?_eq_some_iff.mp e).1; simpa using this
    have hk' : k < σ.length := by rw [← hln]; exact hk
    rw [get_set2 (by simp; exact hk), get_set2 (by simp; exact hk), get_set2 hk] at e
    rw [get_set2 (by simp; exact hk'), get_set2 (by simp; exact hk'), get_set2 hk']
    by_cases c0 : k = l
    · simp only [c0, if_true] at e ⊢
      cases e
      exact ⟨ext_get (by simp), (ext_get (by simp [hln])).symm⟩
    · simp only [c0, if_false] at e ⊢
      by_cases c1 : k = j
      · simp only [c1, if_true] at e ⊢
        cases e
        exact ⟨by rw [List.getElem?_append_left (by simp)]; exact ext_get (by simp), by rw [List.getElem?_append_left (by simp [hln])]; exact (ext_get (by simp [hln])).symm⟩
      · simp only [c1, if_false] at e ⊢
        by_cases c2 : k = i
        · simp only [c2, if_true] at e ⊢
          cases e
          exact ⟨by rw [List.getElem?_append_left (by simp), List.getElem?_append_left (by simp)]; exact ext_get rfl, by rw [List.getElem?_append_left (by simp [hln]), List.getElem?_append_left (by simp [hln])]; exact (ext_get (by simp [hln])).symm⟩
        · simp only [c2, if_false] at e ⊢
          refine ⟨?_, ?_⟩
          · rw [List.getElem?_append_left (by simp; omega), List.getElem?_append_left (by simp; omega), List.getElem?_append_left hk]; exact e
          · rw [List.getElem?_append_left (by simp; omega), List.getElem?_append_left (by simp; omega), List.getElem?_append_left hk']
  · simp only [List.length_set] at hk hm
    (repeat' split at e) <;> omega
end
/-! ### x += e, of whole numbers and texts -/
def dAug : Dv → Dv → Option Dv
  | .val (.int i), .val (.int j) => some (.val (.int (i + j)))
  | .val (.str x), .val (.str y) => if x.length + y.length ≤ 16777216 then some (.val (.str (x ++ y))) else none
  | _, _ => none
def sAug (i : Nat) (f : SE Dv) : SS := fun ρ π => match ρ[i]? with
  | some (.val x) => thenS (f ρ π) ρ fun d π1 => match dAug x d with
    | some z => .nx (ρ.set i (.val z)) π1
    | none => .bad
  | _ => .bad
section
variable {X : Cx} {tb : Tb} {B : WX} {W0 : Wd} {H0 : Hp}
theorem i_add : PIp X .Add (rD (Cx.md X tb) dAug) := by
  rintro pins s σ H x y v u Q I rx ry ⟨W, d, e, z, sm, rd, re, hz, q⟩
  unfold dAug at hz
  split at hz
  · cases hz; cases rv_int rd; cases rv_int re
    exact ip_add pins s σ H _ _ v u Q I rx ry ⟨_, _, rfl, rfl, stay q sm (.val (.int _))⟩
  · split at hz
    · rename_i hl
      cases hz; cases rv_str rd; cases rv_str re
      exact iop_add_str pins s σ H _ _ v u Q I rx ry ⟨_, _, rfl, rfl, line_le.mp hl, stay q sm (.val (.str _))⟩
    · cases hz
  · cases hz
theorem s_aug (i : Nat) {x : Str} {e : Expr} {pos pos' : Pos} {f : SE Dv} (hN : X.N.Nodup) (he : PE X e (tE (Cx.md X tb) B f)) (hi : X.N[i]? = some x := by rfl) (hx : Loc X.env.scope x := by first | exact Or.inl rfl | exact Or.inr rfl)
    (hf : X.fn x = true ∨ X.env.scope.names.lookup x = some .local := by first | exact .inl rfl | exact .inr rfl) : PS X (.AugAssign (.Name x pos') .Add e pos) (tS (Cx.md X tb) W0 H0 B (sAug i f)) := by
  refine PS.weak (ps_aug hN hi hx he (i_add (tb := tb)) hf) ?_
  rintro D σ H ⟨W, ρ, π, st, p⟩
  unfold sAug at p
  cases e1 : ρ[i]? with
  | none => rw [e1] at p; exact p.elim
  | some sv =>
    rw [e1] at p
    cases sv with
    | emp => exact p.elim
    | own ds => exact p.elim
    | val d =>
      obtain ⟨o, g1, g2⟩ := st.st.sl i _ e1
      cases g2 with
      | @val v _ rv =>
        refine ⟨v, g1, W, ρ, π, st.st, thenS_post st p fun a π1 W1 H1 u s1 r1 ru p1 => ?_⟩
        cases q : dAug d a with
        | none => simp only [q] at p1; exact p1.elim
        | some z =>
          simp only [q] at p1
          refine ⟨W1, d, a, z, r1.st.same, rv.step s1, ru, q, fun w H2 W2 s2 pn2 sm2 rw2 => ?_⟩
          exact p1 W2 H2 _ ((r1.step s2 (pn2 π1 r1.st.pen) sm2).set i rw2) s2.sub
end
section
variable {E : Str → Pn → Prop} {N : List Sv → Pn → Prop} {R : Dv → Pn → Prop} {B C : List Sv → Pn → Prop} {ρ : List Sv} {π : Pn}
theorem w_mval {f : SE Dv} {Q : Sv → Pn → Prop} (h : wR (f ρ π) E fun d π => Q (.val d) π) : wR (mVal f ρ π) E Q := wR_bind h
theorem w_mown {f : SE (List PyData)} {Q : Sv → Pn → Prop} (h : wR (f ρ π) E fun d π => Q (.own d) π) : wR (mOwn f ρ π) E Q := wR_bind h
theorem w_par2 {i j : Nat} {f g : SE Sv} (h : wR (f ρ π) E fun s1 π => wR (g ρ π) E fun s2 π => N ((ρ.set i s1).set j s2) π) : wS (sPar2 i j f g ρ π) N R B C E :=
  wS_then (wR_mono h (fun _ _ h => wS_then h) fun _ _ h => h)
theorem w_par3 {i j l : Nat} {f g k : SE Sv} (h : wR (f ρ π) E fun s1 π => wR (g ρ π) E fun s2 π => wR (k ρ π) E fun s3 π => N (((ρ.set i s1).set j s2).set l s3) π) : wS (sPar3 i j l f g k ρ π) N R B C E :=
  wS_then (wR_mono h (fun _ _ h => wS_then (wR_mono h (fun _ _ h => wS_then h) fun _ _ h => h)) fun _ _ h => h)
theorem w_cgnil {tg : PyData → List Sv → Option (List Sv)} {c : SE Bool} {f : SE Dv} {Q : List PyData → Pn → Prop} (h : Q [] π) : wR (compGo tg c f ρ [] π) E Q := h
theorem w_cgcons {tg : PyData → List Sv → Option (List Sv)} {c : SE Bool} {f : SE Dv} {d : PyData} {r : List PyData} {Q : List PyData → Pn → Prop}
    (h : wO (tg d ρ) fun ρ1 => wR (c ρ1 π) NE fun b π => wIf b (wR (f ρ1 π) NE fun v π => ∃ y, v = .val y ∧ wR (compGo tg c f ρ r π) E fun ds π => Q (y :: ds) π) (wR (compGo tg c f ρ r π) E Q)) : wR (compGo tg c f ρ (d :: r) π) E Q := by
  unfold compGo
  cases q : tg d ρ with
  | none => rw [q] at h; exact h.elim
  | some ρ1 =>
    rw [q] at h
    have h : wR (c ρ1 π) NE fun b π => wIf b (wR (f ρ1 π) NE fun v π => ∃ y, v = .val y ∧ wR (compGo tg c f ρ r π) E fun ds π => Q (y :: ds) π) (wR (compGo tg c f ρ r π) E Q) := h
    refine wR_bind (wR_noexn (wR_mono h ?_ fun _ _ x => x))
    intro b π1 s
    cases b with
    | false => exact s
    | true =>
      refine wR_bind (wR_noexn (wR_mono s ?_ fun _ _ x => x))
      rintro _ π2 ⟨y, rfl, hj⟩
      exact wR_bind hj
theorem o_w_mulB {i j : Int} {a b : Nat} (hi : i.natAbs < 2 ^ a) (hj : j.natAbs < 2 ^ b) (h : a + b ≤ 1000000) {Q : Dv → Prop} (q : Q (.val (.int (i * j)))) : wO (dMul (.val (.int i)) (.val (.int j))) Q := by
  have lg : ∀ {n k : Nat}, n < 2 ^ k → n.log2 ≤ k ∧ (n.log2 = k → k = 0) := fun {n k} hn => by
    by_cases h0 : n = 0
    · subst h0; exact ⟨Nat.zero_le _, fun z => by simpa using z.symm⟩
    · have := (Nat.log2_lt h0).mpr hn
      exact ⟨Nat.le_of_lt this, fun z => by omega⟩
  have h1 := lg hi
  have h2 := lg hj
  show wO (if i.natAbs.log2 + j.natAbs.log2 < 1000000 then some (Dv.val (.int (i * j))) else none) Q
  rw [if_pos]; exact q
  rcases Nat.lt_or_ge (i.natAbs.log2 + j.natAbs.log2) 1000000 with g | g
  · exact g
  · have a1 := h1.2 (by omega)
    have a2 := h2.2 (by omega)
    omega
theorem w_wh1 {c : SE Bool} {f : SS} {n : Nat} (h : wR (c ρ π) E fun b π1 => wIf b (wS (f ρ π1) (fun ρ π => wS (whileGo c f n ρ π) N R B C E) R N (fun ρ π => wS (whileGo c f n ρ π) N R B C E) E) (N ρ π1)) : wS (whileGo c f (n + 1) ρ π) N R B C E := by
  unfold whileGo
  refine wS_then (wR_mono h ?_ fun _ _ x => x)
  intro b π1 h
  cases b with
  | false => exact h
  | true =>
    have h : wS (f ρ π1) (fun ρ π => wS (whileGo c f n ρ π) N R B C E) R N (fun ρ π => wS (whileGo c f n ρ π) N R B C E) E := h
    show wS (match f ρ π1 with
      | .nx ρ2 π2 => whileGo c f n ρ2 π2
      | .ct ρ2 π2 => whileGo c f n ρ2 π2
      | .bk ρ2 π2 => .nx ρ2 π2
      | .rt d π2 => .rt d π2
      | .exn n ρ2 π2 => .exn n ρ2 π2
      | .bad => .bad) N R B C E
    cases q : f ρ π1 <;> rw [q] at h <;> exact h
/-- a while: I n, at most n turns are left -/
theorem w_while {c : SE Bool} {f : SS} (I : Nat → List Sv → Pn → Prop) (step : ∀ n ρ π, I n ρ π → wR (c ρ π) E fun b π1 => wIf b (∃ m, n = m + 1 ∧ wS (f ρ π1) (I m) R N (I m) E) (N ρ π1)) :
    ∀ {fuel n : Nat} {ρ : List Sv} {π : Pn}, n < fuel → I n ρ π → wS (whileGo c f fuel ρ π) N R B C E
  | 0, _, _, _, h, _ => absurd h (Nat.not_lt_zero _)
  | fuel + 1, n, ρ, π, h, hi => by
    refine w_wh1 (wR_mono (step n ρ π hi) ?_ fun _ _ x => x)
    intro b π1 h2
    cases b with
    | false => exact h2
    | true =>
      obtain ⟨m, rfl, h3⟩ := (show ∃ m, n = m + 1 ∧ wS (f ρ π1) (I m) R N (I m) E from h2)
      show wS (f ρ π1) _ _ _ _ _
      have go : ∀ ρ π, I m ρ π → wS (whileGo c f fuel ρ π) N R B C E := fun ρ π hm => w_while I step (by omega) hm
      cases q : f ρ π1 with
      | nx ρ2 π2 => rw [q] at h3; exact go _ _ h3
      | ct ρ2 π2 => rw [q] at h3; exact go _ _ h3
      | bk ρ2 π2 => rw [q] at h3; exact h3
      | rt d π2 => rw [q] at h3; exact h3
      | exn n ρ2 π2 => rw [q] at h3; exact h3
      | bad => rw [q] at h3; exact h3
theorem w_aug {i : Nat} {f : SE Dv} {x : Dv} (e : ρ[i]? = some (.val x)) (h : wR (f ρ π) E fun d π => wO (dAug x d) fun z => N (ρ.set i (.val z)) π) : wS (sAug i f ρ π) N R B C E := by
  unfold sAug
  rw [e]
  refine wS_then (wR_mono h ?_ fun _ _ h => h)
  intro d π1 h
  cases q : dAug x d with
  | none => rw [q] at h; exact h.elim
  | some z => rw [q] at h; simp only [q]; exact h
theorem o_w_augI {i j : Int} {Q : Dv → Prop} (h : Q (.val (.int (i + j)))) : wO (dAug (.val (.int i)) (.val (.int j))) Q := h
theorem o_w_augS {x y : List Nat} {Q : Dv → Prop} (l : x.length + y.length ≤ 16777216) (h : Q (.val (.str (SX.S (x ++ y))))) : wO (dAug (.val (.str (SX.S x))) (.val (.str (SX.S y)))) Q := by
  have := o_w_catS l h
  exact this
end
end DL

set_option maxRecDepth 100000
set_option maxHeartbeats 8000000
namespace DL
open PySem PySem.Spec PyProof.Rows L2
/-! ### < of data: whole numbers, texts, lists and tuples of these -/
def dLtX : Dv → Dv → Option Dv
  | .val d, .val e => if PySem.W.alike d e = true ∧ flatD d = false ∧ min d.depth e.depth ≤ 60 then some (.val (.bool (PySem.W.dataLt d e))) else none
  | _, _ => none
section
variable {X : Cx} {tb : Tb}
theorem o_ltX (hu : X.A.units + 64 < cLine) : OpR X (compareOp .Lt) (rD (Cx.md X tb) dLtX) := by
  rintro pins s σ H x y v u Q I rx ry ⟨W, d, e, z, sm, rd, re, hz, q⟩
  unfold dLtX at hz
  split at hz
  · rename_i d e
    split at hz
    · rename_i h
      cases hz
      obtain ⟨h1, h2, h3⟩ := h
      obtain ⟨as, r1⟩ := Dp.reads I d x v ((rv_data rd).dp sm) rx
      obtain ⟨bs, r2⟩ := Dp.reads I e y u ((rv_data re).dp sm) ry
      have hn : d ≠ .none := fun z => by rw [z] at h2; cases h2
      have := PySem.W.rcLt_alike d e X.A s v u as bs r1 r2 h1 hn (by omega)
      exact this X.prog X.w X.xe _ ⟨.bl _, H, I, rfl, stay q sm (.val (.bl _))⟩
    · cases hz
  · cases hz
end
theorem lex_ints : ∀ a b : List Int, PyProof.Rows.lexLt PyProof.Rows.itemOrd (PySem.W.keyToksAll (a.map PyData.int)) (PySem.W.keyToksAll (b.map PyData.int)) = HT.lexLt a b
  | [], [] => by
    show PyProof.Rows.lexLt itemOrd [.inl 0] [.inl 0] = false
    rw [PySem.W.lex_one]; rfl
  | [], y :: ys => by
    rw [List.map_cons, PySem.W.toks_all_cons]
    show PyProof.Rows.lexLt itemOrd [.inl 0] _ = true
    rw [PySem.W.lex_atom (by simp), PySem.W.lex_one]; rfl
  | x :: xs, [] => by
    rw [List.map_cons, PySem.W.toks_all_cons]
    show PyProof.Rows.lexLt itemOrd _ [.inl 0] = false
    rw [PySem.W.lex_atom (by simp), PySem.W.lex_one]; rfl
  | x :: xs, y :: ys => by
    rw [List.map_cons, List.map_cons, PySem.W.toks_all_cons, PySem.W.toks_all_cons, HT.lexLt_cons]
    show PyProof.Rows.lexLt itemOrd ([.inl 1] ++ _) ([.inl 1] ++ _) = _
    rw [PySem.W.lex_pre]
    by_cases h : x = y
    · subst h
      rw [if_pos rfl]
      exact (PySem.W.lex_pre [.inl x] _ _).trans (lex_ints xs ys)
    · rw [if_neg h]
      show PyProof.Rows.lexLt itemOrd (.inl x :: _) (.inl y :: _) = _
      rw [PySem.W.lex_atom (by simpa using h), PySem.W.lex_one]; rfl
theorem alike_ints : ∀ a b : List Int, PySem.W.alikeAll (a.map PyData.int) (b.map PyData.int) = true
  | [], _ => by simp [PySem.W.alikeAll]
  | _ :: _, [] => by simp [PySem.W.alikeAll]
  | x :: xs, y :: ys => by
    rw [List.map_cons, List.map_cons, PySem.W.alikeAll, alike_ints xs ys]
    simp [PySem.W.alike]
theorem depth_ints : ∀ l : List Int, PyData.depthAll (l.map PyData.int) = 0
  | [] => rfl
  | i :: l => by
    have := depth_ints l
    simp only [List.map_cons, PyData.depthAll, PyData.depth, this]; rfl
theorem o_w_ltXL {a b : List Int} {Q : Dv → Prop} (h : Q (.val (.bool (HT.lexLt a b)))) : wO (dLtX (.val (.list (a.map PyData.int))) (.val (.list (b.map PyData.int)))) Q := by
  show wO (if PySem.W.alike (.list (a.map PyData.int)) (.list (b.map PyData.int)) = true ∧ flatD (.list (a.map PyData.int)) = false ∧ min (PyData.list (a.map PyData.int)).depth (PyData.list (b.map PyData.int)).depth ≤ 60 then some (Dv.val (.bool (PySem.W.dataLt (.list (a.map PyData.int)) (.list (b.map PyData.int))))) else none) Q
  rw [if_pos]
  · show Q (.val (.bool (PySem.W.dataLt _ _)))
    rw [PySem.W.dataLt_list, lex_ints]; exact h
  · refine ⟨?_, rfl, ?_⟩
    · show PySem.W.alike _ _ = true
      rw [PySem.W.alike]; exact alike_ints a b
    · rw [PyData.depth, PyData.depth, depth_ints, depth_ints]; decide
end DL

set_option maxRecDepth 100000
set_option maxHeartbeats 8000000
namespace DLX
open PySem PySem.Spec PyProof.Rows L2
open PySem.Sem (wp)
open AutoSeq1 (wpAny_loadPart')

/-! ### enumerate of a tuple -/
theorem wpAny_pyIter_tup {prog : Program} {w : World} {A : Around} {E : Value → Shared → Prop} {s : Shared} {l : Addr} {items : Array Value} {Q : Value → Shared → Prop} (hL : s.heap.IsTuple l items)
    (hQ : Q (.ref s.heap.objs.size) { s with heap := s.heap.push { cls := .type "tuple_iterator", data := .fields #[.ref l, .int 0 0] } }) : wpAny (model prog w) A (pyIter (.ref l)) Q E s := by
  exact wpAny_pyIter_tuple hL hQ
theorem meets_enumerate_newT (l : Addr) (items : Array Value) (n : Nat) (dct : Option Addr) (sl : Array (Option Value)) :
    Meets (Builtin.«enumerate.__new__» ⟨[.type "enumerate", .ref l], []⟩) (fun _ R s => s.heap.get? l = some { cls := .type "tuple", dict := dct, data := .seq items n, slots := sl } ∧
      R (.ok (.ret (.ref (s.heap.push { cls := .type "tuple_iterator", data := .fields #[.ref l, .int 0 0] }).objs.size)))
        { s with heap := (s.heap.push { cls := .type "tuple_iterator", data := .fields #[.ref l, .int 0 0] }).push { cls := .type "enumerate", data := .fields #[.none, .bool false, .ref s.heap.objs.size, rawInt 0, .none, .none] } }) :=
  .of_wp fun prog w A R s h => by
    obtain ⟨hp, g, d, tk, os⟩ := s; obtain ⟨hl, h⟩ := h
    have hsub := sub_enumerate
    have hL : Heap.IsTuple (Shared.heap ⟨hp, g, d, tk, os⟩) l items := ⟨_, hl, rfl, n, rfl⟩
    wp_walk using wpAny_loadPart' hl
    refine wpAny_stack_any fun st => wpAny_pure ?_
    split
    · rename_i c _ _ _ _ _
      cases (c == Value.type "enumerate")
      · wp_walk using wpAny_loadPart' hl, wpAny_pyIter_tup hL
        exact ⟨_, rfl, h⟩
      · wp_walk using wpAny_loadPart' hl, wpAny_pyIter_tup hL
        exact ⟨_, rfl, h⟩
    · wp_walk using wpAny_loadPart' hl, wpAny_pyIter_tup hL
      exact ⟨_, rfl, h⟩
section
variable {prog : Program} {w : World} {A : Around} {E : Value → Shared → Prop} {s : Shared}
theorem call_enumerate_tuple {l : Addr} {items : Array Value} {Q : Value → Shared → Prop} (hL : s.heap.IsTuple l items)
    (h : ∀ h', IsEnum h' (s.heap.objs.size + 1) s.heap.objs.size 0 .none → h'.IsTupleIter s.heap.objs.size l 0 → h'.objs.size = s.heap.objs.size + 2 →
      (∀ b o, s.heap.get? b = some o → h'.get? b = some o) → Q (.ref (s.heap.objs.size + 1)) { s with heap := h' }) :
    wpAny (model prog w) A (call (.type "enumerate") [.ref l]) Q E s := by
  obtain ⟨⟨c, dct, dt, sl⟩, hl, hc, n, hd⟩ := hL
  replace hc : c = .type "tuple" := hc
  replace hd : dt = .seq items n := hd
  subst hc hd
  refine callType_new F.called_enumerate (by decide) (F.typeCall_enumerate_1 _) (F.newCall_enumerate_1 _) (fun obj => F.args_object_init_2 obj _) F.entry_enumerate_new
    (meets_enumerate_newT l items n dct sl) ⟨hl, ?_⟩
  have hz : (s.heap.push { cls := .type "tuple_iterator", data := .fields #[.ref l, .int 0 0] }).objs.size = s.heap.objs.size + 1 := Heap.size_push ..
  show _ ∧ _
  rw [hz]
  have he : IsEnum ((s.heap.push { cls := .type "tuple_iterator", data := .fields #[.ref l, .int 0 0] }).push
      { cls := .type "enumerate", data := .fields #[.none, .bool false, .ref s.heap.objs.size, rawInt 0, .none, .none] }) (s.heap.objs.size + 1) s.heap.objs.size 0 .none := by
    have := Heap.get?_push_size (s.heap.push { cls := .type "tuple_iterator", data := .fields #[.ref l, .int 0 0] })
      (o := { cls := .type "enumerate", data := .fields #[.none, .bool false, .ref s.heap.objs.size, rawInt 0, .none, .none] }) rfl
    rw [hz] at this; exact this
  refine ⟨⟨_, he, rfl⟩, h _ he ⟨_, Heap.get?_push_of_some _ (Heap.get?_push_size _ rfl), rfl, rfl⟩ (by rw [Heap.size_push, hz]) fun b o x => Heap.get?_push_of_some _ (Heap.get?_push_of_some _ x)⟩
theorem draws_tuple {it l : Addr} {items : Array Value} (hh : A.handled = none) (hne : l ≠ it) : Draws prog w A it [it, l] items.size (fun i x => items[i]? = some x) (fun i h => h.IsTupleIter it l i ∧ h.IsTuple l items) where
  live := fun i h ⟨⟨o, ho, _⟩, _⟩ => ⟨o, ho⟩
  frame := fun i h h' ⟨hi, hl⟩ k => ⟨hi.at fun o q => k it (by simp) o q, let ⟨o, ho, r⟩ := hl; ⟨o, k l (by simp) o ho, r⟩⟩
  item := fun i s Q E hi ⟨hit, hl⟩ hQ => by
    have hx : items[i]? = some items[i] := by simp [hi]
    exact RZ.nextOf_tuple_item hit hl hx fun h' hit' sb => hQ _ h' s.toks hx ⟨hit', let ⟨o, ho, r⟩ := hl; ⟨o, (sb.2 l hne).trans ho, r⟩⟩ sb
  done := fun s Q E ⟨hit, hl⟩ hE => RZ.nextOf_tuple_end hh hit hl (by simp) hE
end
def IteT (K : PySem.W.Frag) (a : Addr) : It :=
  ⟨fun i H => ∃ (xs : List V) (x : V), SqT K H a xs ∧ xs[i]? = some x, fun i H v H' => ∃ T x, v = .ref T ∧ H T = none ∧ H' = upd H T (.tup [.int (i : Nat), x]) ∧ ∀ xs, SqT K H a xs → xs[i]? = some x, fun i H => ∃ xs : List V, SqT K H a xs ∧ xs.length ≤ i⟩
theorem turn_enumT {P : Program} {w : World} {K : PySem.W.Frag} {elts : List Expr} {kk : Nat} {tpos : Pos} (a e it : Addr) (hai : a ≠ it) (hae : e ≠ a) :
    Turn P w K (.Tuple elts kk tpos) (IteT K a) [e, it] e (fun i h => (∃ old, IsEnum h e it ((i : Nat) : Int) old) ∧ h.IsTupleIter it a i ∧ e ≠ it) where
  mem := by simp
  obj := fun i h st b hb => by
    obtain ⟨⟨old, he⟩, ⟨o, ho, hc, hd⟩, _⟩ := st
    have e' : b = e ∨ b = it := by simpa using hb
    rcases e' with z | z
    · rw [z]; exact ⟨_, he, fun v q => nomatch q⟩
    · rw [z]; exact ⟨o, ho, fun v q => by rw [hd] at q; cases q⟩
  keep := fun i h h' st k => let ⟨⟨old, he⟩, hi, hne⟩ := st; ⟨⟨old, k e (by simp) _ he⟩, hi.at fun o q => k it (by simp) o q, hne⟩
  item := by
    intro X hP hw hK hc i pins s σ H E I hf st hg
    subst hP hw hK
    obtain ⟨⟨old, he⟩, hit, hne⟩ := st
    obtain ⟨xs, x, hq, hx⟩ := hg
    obtain ⟨its, rv, p, _⟩ := I.tuple hq
    obtain ⟨u, hu, ru⟩ := rv.get hx
    have hel : e < s.heap.objs.size := Heap.lt_size he
    have hil : it < s.heap.objs.size := by obtain ⟨_, q, _⟩ := hit; exact Heap.lt_size q
    have hu2 : its.toArray[i]? = some u := by simpa using hu
    have hi : i < its.toArray.size := by
      rcases Nat.lt_or_ge i its.toArray.size with z | z
      · exact z
      · rw [Array.getElem?_eq_none z] at hu2; cases hu2
    have D := draws_tuple (prog := X.prog) (w := X.w) (A := X.A.in1) (items := its.toArray) (I.ok.hd hc) hai
    refine wpAny_pyNext_enum_itemD D he ⟨hit, p⟩ hi hne (by simp [hne, hae]) fun x' h' tk hx' ho hst' hT hsz hk => ?_
    rw [hu2] at hx'
    cases hx'
    refine ⟨_, rfl, wpAny_letOwnedTupleGo_enum (s := { s with heap := h', toks := tk + 1 }) ho fun h'' he' sb => ?_⟩
    have hT2 : h''.get? s.heap.objs.size = some { cls := .type "tuple", data := .seq #[.int i tk, u] } := (sb.2 _ (Nat.ne_of_gt hel)).trans hT
    have new : ObjOk X.prog X.w (upd H s.heap.objs.size (.tup [.int (i : Nat), x])) h'' s.heap.objs.size (.tup [.int (i : Nat), x]) :=
      ⟨by show 2 ≤ sizeLine; decide, [.int i tk, u], .cons ⟨_, rfl⟩ (.cons ru .nil), ⟨_, hT2, rfl, _, rfl⟩⟩
    have I1 : Inv X pins σ (upd H s.heap.objs.size (.tup [.int (i : Nat), x])) { s with heap := h'', toks := tk + 1 } :=
      I.turnedNew (ch := [e, it]) (fun b ob hb q => (sb.2 b (fun z => hb (by simp [z]))).trans (hk b ob (fun z => hb (by simp [z])) (fun z => hb (by simp [z])) q)) hf (Nat.le_refl _) new
    refine ⟨.ref s.heap.objs.size, _, I1, rfl, ⟨_, x, rfl, I.hok.fresh (Nat.le_refl _), rfl, fun ys hy => by rw [I.tuple_inj hy hq]; exact hx⟩, ⟨⟨u, ?_⟩, hst'.1.at fun o q => (sb.2 it (Ne.symm hne)).trans q, hne⟩, fun b hb => ?_⟩
    · have e1 : ((i + 1 : Nat) : Int) = (i : Int) + 1 := by omega
      rw [e1]; exact he'
    · have hb' : b < s.heap.objs.size := by
        have e' : b = e ∨ b = it := by simpa using hb
        rcases e' with z | z
        · rw [z]; exact hel
        · rw [z]; exact hil
      rw [upd_ne (Nat.ne_of_lt hb')]
      exact (hf b hb).1
  done := by
    intro X hP hw hK hc i pins s σ H E I hf st hg
    subst hP hw hK
    obtain ⟨⟨old, he⟩, hit, hne⟩ := st
    obtain ⟨xs, hq, hx⟩ := hg
    obtain ⟨its, rv, p, _⟩ := I.tuple hq
    obtain ⟨f0, f1, f2, f3, f4, f5⟩ := hf it (by simp)
    have hl := rv.length
    unfold pyNext
    have hT : s.TypeIs (.ref e) "enumerate" := ⟨_, he, rfl⟩
    refine wpAny_bind (wpAny_attempt (wpAny_callSpecial?_slot (name := Str.ofString "__next__") hT F.slot_enumerate_next
      (wpAny_call_entry F.slot_enumerate_next hT F.entry_enumerate_next ?_ (F.args_enumerate_next_1 _))))
    show wpAny _ _ (field (.ref e) 2 >>= _) _ _ _
    refine wpAny_bind (wpAny_field he rfl (x := .ref it) rfl ?_)
    refine wpAny_bind (RZ.nextOf_tuple_end (I.ok.hd hc) hit p (by simp; omega) fun h' x he' hx' => ?_)
    obtain ⟨o, ho, hcc⟩ := hx'
    refine wpAny_bind (wpAny_isInstance (T := "StopIteration") (b := true) ⟨o, ho, hcc⟩ isSubtype_stop ?_)
    exact wpAny_pure ⟨rfl, I.turned (t' := s.toks) (fun b o hb q => he' b o hb q) f0 f1 f3 f4 f5⟩
  self := fun A i s Q E st h => let ⟨⟨_, he⟩, _⟩ := st; wpAny_pyIter_enum he h
def iEnumT (K : PySem.W.Frag) (ta : TA) : TI := fun σ H R => ta σ H fun vs H1 => ∃ a xs, vs = [.ref a] ∧ SqT K H1 a xs ∧ R (IteT K a) H1
theorem pi_enumT {X : Cx} {e : Expr} {ta : TA} {p pos tpos : Pos} {elts : List Expr} {kk : Nat} (hg : Gl X "enumerate") (hm : X.mg "enumerate" = none) (ha : PA X [e] ta) (hs : starEach [e] X.env = [(false, eval e X.env)] := by rfl) :
    PI X (.Tuple elts kk tpos) (.Call (.Name "enumerate" p) [e] [] pos) (iEnumT X.K ta) := by
  refine ⟨fun pins s σ H R I h => ?_⟩
  refine Call_ (ld_blt I hg hm boot_enumerate (PyProof.Rows.callWith_type1 (thn (ha.run pos pins s σ H _ I h) fun us s1 ⟨vs, H1, I1, r1, q1⟩ => ?_) hs rfl))
  obtain ⟨a, xs, ex, hq, q⟩ := q1
  subst ex
  cases r1 with
  | cons r rr =>
    cases rr
    cases r
    obtain ⟨its, rv, p', hz⟩ := I1.tuple hq
    have hal : a < s1.heap.objs.size := by obtain ⟨o, ho, _⟩ := p'; exact Heap.lt_size ho
    refine call_enumerate_tuple p' fun h' he hit hsz hk => wpAny_pyIter_enum he ?_
    have I2 : Inv X pins σ H1 { s1 with heap := h' } := I1.kept (t' := s1.toks) hk
    refine ⟨s1.heap.objs.size + 1, [s1.heap.objs.size + 1, s1.heap.objs.size], _, _, H1, rfl, I2, turn_enumT a (s1.heap.objs.size + 1) s1.heap.objs.size (Nat.ne_of_lt hal) (Nat.ne_of_gt (Nat.lt_succ_of_lt hal)), ⟨⟨.none, he⟩, hit, Nat.succ_ne_self _⟩, fun b hb => ?_, q⟩
    have e' : b = s1.heap.objs.size + 1 ∨ b = s1.heap.objs.size := by simpa using hb
    have hle : s1.heap.objs.size ≤ b := by
      rcases e' with z | z
      · rw [z]; exact Nat.le_add_right _ _
      · rw [z]; exact Nat.le_refl _
    exact I1.fpOk hle (I1.hok.fresh hle)
end DLX

set_option maxRecDepth 100000
set_option maxHeartbeats 8000000
namespace DL
open PySem PySem.Spec PyProof.Rows L2
/-! ### enumerate of lists and tuples; zip of lists, of tuples, of texts; reversed -/
theorem w_enumT {F : Hp} {K : PySem.W.Frag} {a : Addr} {xs : List V} {ds : List PyData} (e : ∃ o, F a = some (.frz o (.tup xs)) ∧ PlT o) (r : DqAll F xs ds) : IsWalkG Dw F (DLX.IteT K a) (enumL ds) := by
  have hl : (enumL ds).length = ds.length := by simp [enumL]
  refine ⟨fun i H hi s => ?_, fun H s => ⟨xs, SqT_frz e s, by rw [hl, r.length]; exact Nat.le_refl _⟩, fun i H x H' W π d y e2 s s2 p => ?_⟩
  · rw [hl, ← r.length] at hi
    exact ⟨xs, xs[i], SqT_frz e s, by simp [hi]⟩
  · obtain ⟨T, x, rfl, n, rfl, y⟩ := y
    obtain ⟨d, e3, rfl⟩ := enumL_get e2
    obtain ⟨v, hv, rv⟩ := r.get' e3
    have z := y xs (SqT_frz e (s.trans s2))
    rw [hv] at z; cases z
    exact pair_step s2 p n (.int _) (rv.mono s)
section
variable {X : Cx} {tb : Tb} {B : WX} {M : Md}
def iEnumX (f : SE Dv) : SE (List PyData) := fun ρ π => (f ρ π).bind fun d π1 => match d with
  | .val (.list ds) => .ok (enumL ds) π1
  | .val (.tuple ds) => .ok (enumL ds) π1
  | _ => .bad
theorem i_enumX {e : Expr} {p pos tpos : Pos} {elts : List Expr} {kk : Nat} {f : SE Dv} (hm : X.mg "enumerate" = none) (he : PE X e (tE (Cx.md X tb) B f)) (hg : Gl X "enumerate" := by rfl) (hs : starEach [e] X.env = [(false, eval e X.env)] := by rfl) :
    PI X (.Tuple elts kk tpos) (.Call (.Name "enumerate" p) [e] [] pos) (tIG Dw (Cx.md X tb) B (iEnumX f)) := by
  refine ⟨fun pins s σ H R I ⟨W, ρ, π, st, p⟩ => ?_⟩
  unfold iEnumX at p
  cases q : f ρ π with
  | bad => rw [q] at p; exact p.elim
  | exn n π' => rw [q] at p; exact (pi_enum hg hm (pa_cons he pa_nil hs) hs).run pins s σ H R I ⟨W, ρ, π, st, by rw [q]; exact p⟩
  | ok d π1 =>
    rw [q] at p
    simp only [Res.bind] at p
    split at p
    · refine (pi_enum hg hm (pa_cons he pa_nil hs) hs).run pins s σ H R I ⟨W, ρ, π, st, ?_⟩
      rw [q]
      intro W1 H1 v s1 pn1 sm1 r1
      obtain ⟨a, xs, rfl, e, z, r⟩ := rv_lst r1
      exact ⟨a, xs, rfl, SqL.of (sm1 _ _ e), p W1 H1 _ s1 pn1 sm1 (w_enum (SqL.of e) r)⟩
    · refine (DLX.pi_enumT hg hm (pa_cons he pa_nil hs) hs).run pins s σ H R I ⟨W, ρ, π, st, ?_⟩
      rw [q]
      intro W1 H1 v s1 pn1 sm1 r1
      obtain ⟨a, xs, rfl, e, z, r⟩ := rv_tup r1
      exact ⟨a, xs, rfl, SqT_frz e sm1, p W1 H1 _ s1 pn1 sm1 (w_enumT e r)⟩
    · exact p.elim
end
section
variable {E : Str → Pn → Prop} {ρ : List Sv} {π : Pn}
theorem w_enumXL {f : SE Dv} {Q : List PyData → Pn → Prop} (h : wR (f ρ π) E fun d π => ∃ ds, (d = .val (.list ds) ∨ d = .val (.tuple ds)) ∧ Q (enumL ds) π) : wR (iEnumX f ρ π) E Q := by
  refine wR_bind (wR_mono h ?_ fun _ _ h => h)
  rintro d π ⟨ds, rfl | rfl, q⟩ <;> exact q
end
end DL

set_option maxRecDepth 100000
set_option maxHeartbeats 8000000
/-! DLJ: a list that a call made, held from then on. -/
namespace DL
open PySem PySem.Spec PyProof.Rows L2

/-- values that are no objects -/
def atomP : PyData → Bool
  | .none => true
  | .bool _ => true
  | .int _ => true
  | .str _ => true
  | _ => false
def atomD : Dv → Bool
  | .val d => atomP d
  | _ => false
theorem Dq.atom {F F' : Hp} {v : V} {d : PyData} (r : Dq F v d) (h : atomP d = true) : Dq F' v d := by
  cases r with
  | non => exact .non
  | bl b => exact .bl b
  | int i => exact .int i
  | str x => exact .str x
  | lst _ _ _ => cases h
  | tup _ _ _ => cases h
theorem DqAll.atom {F F' : Hp} : ∀ {vs : List V} {ds : List PyData}, DqAll F vs ds → ds.all atomP = true → DqAll F' vs ds
  | _, _, .nil, _ => .nil
  | _, _, .cons r t, h => by
    rw [List.all_cons, Bool.and_eq_true] at h
    exact .cons (r.atom h.1) (DqAll.atom t h.2)
theorem RvL.atom {M : Md} {W W' : Wd} : ∀ {vs : List V} {ds : List Dv}, RvL M W vs ds → ds.all atomD = true → RvL M W' vs ds
  | _, _, .nil, _ => .nil
  | _, _, .cons r t, h => by
    rw [List.all_cons, Bool.and_eq_true] at h
    refine .cons ?_ (RvL.atom t h.2)
    cases r with
    | val r => exact .val (r.atom h.1)
    | pen _ => exact absurd h.1 (by simp [atomD])
    | scr _ _ => exact absurd h.1 (by simp [atomD])
    | err _ _ => exact absurd h.1 (by simp [atomD])
    | dct _ _ _ => exact absurd h.1 (by simp [atomD])
    | fn _ => exact absurd h.1 (by simp [atomD])
/-- the world as one sees it who knows of nothing but tables -/
def bareF (F : Hp) : Hp := fun b => match F b with
  | some (.tbl ps) => some (.tbl ps)
  | some (.ext φ) => some (.ext φ)
  | _ => none
theorem bareF_lst {F : Hp} {b : Addr} {xs : List V} : bareF F b ≠ some (.lst xs) := by
  unfold bareF
  split <;> intro h <;> cases h
def bareW (W : Wd) : Wd := ⟨bareF W.F, none, W.tb⟩
theorem bareF_sub {F : Hp} : Same (bareF F) F := by
  intro b o h
  unfold bareF at h
  split at h
  · rename_i e; rw [e]; exact h
  · rename_i e; rw [e]; exact h
  · cases h
/-- the world behind a call made so: what was, and the things that are told by what is true of them -/
def backF (F F' : Hp) : Hp := fun b => match F b, F' b with
  | some o, _ => some o
  | none, some (.ext φ) => some (.ext φ)
  | none, _ => none
theorem backF_sub {F F' : Hp} : Same F (backF F F') := fun b o h => by unfold backF; rw [h]
theorem backF_cases {F F' : Hp} {b : Addr} {o : HO} (h : backF F F' b = some o) : F b = some o ∨ (F b = none ∧ F' b = some o ∧ ∃ φ, o = .ext φ) := by
  unfold backF at h
  split at h
  · rename_i e; rw [e]; exact .inl h
  · rename_i e1 e2; cases h; exact .inr ⟨e1, e2, _, rfl⟩
  · cases h
theorem backF_ext {F F' : Hp} {b : Addr} {φ : Heap → Prop} (s : Same (bareF F) F') (h : F' b = some (.ext φ)) (sm : ∀ o, F b = some o → (∃ ps, o = .tbl ps) ∨ (∃ φ, o = .ext φ) ∨ F' b = none ∨ F' b = some o) : backF F F' b = some (.ext φ) := by
  unfold backF
  cases e : F b with
  | none => simp only [h]
  | some o =>
    show some o = _
    rcases sm o e with ⟨ps, rfl⟩ | ⟨χ, rfl⟩ | z | z
    · have := s b (.tbl ps) (by unfold bareF; rw [e]); rw [h] at this; cases this
    · have := s b (.ext χ) (by unfold bareF; rw [e]); rw [h] at this; cases this; rfl
    · rw [h] at z; cases z
    · rw [h] at z; exact z.symm
def backW (W W' : Wd) : Wd := ⟨backF W.F W'.F, W.pa, W.tb⟩
/-- what a call's result is, when it must be a new list of values that are no objects -/
def newL (π : Pn) : Res Dv → Res (List PyData)
  | .ok (.val (.list es)) none => if es.all atomP = true then .ok es π else .bad
  | .exn n none => .exn n π
  | _ => .bad
section
variable {M : Md} {B : WX} {W W' : Wd} {H H' : Hp} {σ : L2.St} {Q : VK} {π : Pn}
theorem bare_same0 (sm : Same W.F H) (s : Step (bareW W) H W' H') (sm' : Same W'.F H') : Same W.F H' := by
  intro b o e
  by_cases t : ∃ ps, o = .tbl ps
  · obtain ⟨ps, rfl⟩ := t
    refine sm' _ _ (s.sub b (.tbl ps) ?_)
    show bareF W.F b = _
    unfold bareF; rw [e]
  · exact s.keep b o (sm b o e) (fun z => nomatch z) fun ps z => t ⟨ps, z⟩
theorem bare_same (sm : Same W.F H) (s : Step (bareW W) H W' H') (sm' : Same W'.F H') : Same (backW W W').F H' := fun b o e => by
  rcases backF_cases e with z | ⟨_, z, _⟩
  · exact bare_same0 sm s sm' b o z
  · exact sm' _ _ z
theorem bare_ext (sm : Same W.F H) (s : Step (bareW W) H W' H') (sm' : Same W'.F H') {b : Addr} {φ : Heap → Prop} (h : W'.F b = some (.ext φ)) : (backW W W').F b = some (.ext φ) :=
  backF_ext s.sub h fun o e => by
    have q := bare_same0 sm s sm' b o e
    have q2 := sm' _ _ h
    rw [q] at q2
    exact .inr (.inr (.inr (by rw [h, ← q2])))
theorem bare_step (s : Step (bareW W) H W' H') : Step W H (backW W W') H' :=
  ⟨backF_sub, fun a o e => by
    rcases backF_cases e with z | ⟨z, z2, φ, rfl⟩
    · exact .inl z
    · rcases s.grow a _ z2 with q | q
      · exact .inl (bareF_sub _ _ q)
      · exact .inr q, fun a o e _ nt => s.keep a o e (fun z => nomatch z) nt, s.there, fun _ e => e, fun _ e => .inl e, rfl⟩
theorem bare_pen (sm : Same W.F H) (pn : PenOk W H π) (s : Step (bareW W) H W' H') (sm' : Same W'.F H') (pn' : PenOk W' H' none) : PenOk (backW W W') H' π := by
  refine ⟨?_, fun P hP => ?_⟩
  · have h := pn.pen
    cases π with
    | none => exact h
    | some p =>
      obtain ⟨a, ca, k1, k2, k3, k4, k5⟩ := h
      have k6 := s.keep a _ k3 (fun z => nomatch z) NotTab.lst
      refine ⟨a, ca, k1, ?_, k6, backF_sub _ _ k4, k5⟩
      cases q : (backW W W').F a with
      | none => rfl
      | some o =>
        have := bare_same sm s sm' a o q
        rw [k6] at this; cases this
        rcases backF_cases q with z | ⟨_, _, φ, z⟩
        · rw [k2] at z; cases z
        · cases z
  · have hP' : P ∈ W'.tb.l := by rw [s.tb]; exact hP
    obtain ⟨h1, h2⟩ := pn'.tab P hP'
    refine ⟨?_, h2.1, fun u hu ps hps pos cv hc => ?_⟩
    · cases q : (backW W W').F P with
      | none => rfl
      | some o =>
        rcases backF_cases q with z | ⟨_, z, _⟩
        · rw [(pn.tab P hP).1] at z; cases z
        · rw [h1] at z; cases z
    · obtain ⟨c, e1, e2⟩ := h2.2 u (by rw [s.tb]; exact hu) ps hps pos cv hc
      exact ⟨c, e1, bare_ext sm s sm' e2⟩
theorem bare_pen0 (pn : PenOk W H π) : PenOk (bareW W) H none :=
  ⟨rfl, fun P hP => ⟨by show bareF W.F P = none; unfold bareF; rw [(pn.tab P hP).1], (pn.tab P hP).2.1, fun u hu ps hps pos cv hc => by
    obtain ⟨c, e1, e2⟩ := (pn.tab P hP).2.2 u hu ps hps pos cv hc
    refine ⟨c, e1, ?_⟩
    have e2 : W.F c = some (.ext _) := e2
    show bareF W.F c = _
    unfold bareF; rw [e2]; rfl⟩⟩
theorem post_new {r : Res Dv} (sm : Same W.F H) (pn : PenOk W H π) (p : PostL M B W H σ Q (newL π r)) : Post M (Rv M) B (bareW W) H σ Q r := by
  cases r with
  | bad => exact p
  | exn n π' =>
    cases π' with
    | some _ => exact p.elim
    | none =>
      intro W' H' C s pn' sm' e
      exact p (backW W W') H' C (bare_step s) (bare_pen sm pn s sm' pn') (bare_same sm s sm') e
  | ok d π' =>
    intro W' H' v s pn' sm' rv
    cases π' with
    | some _ => unfold newL at p; split at p <;> first | exact p.elim | (rename_i h; cases h)
    | none =>
      cases rv with
      | pen _ => exact p.elim
      | scr _ _ => exact p.elim
      | err _ _ => exact p.elim
      | dct _ _ _ => exact p.elim
      | fn _ => exact p.elim
      | val r => cases r with
        | non => exact p.elim
        | bl _ => exact p.elim
        | int _ => exact p.elim
        | str _ => exact p.elim
        | tup _ _ _ => exact p.elim
        | @lst a xs ds e z r =>
          have p : PostL M B W H σ Q (if ds.all atomP = true then .ok ds π else .bad) := p
          by_cases h : ds.all atomP = true
          · rw [if_pos h] at p
            have hn : H a = none := by
              rcases s.grow a _ e with q | q
              · exact absurd q bareF_lst
              · exact q
            have fn : (backW W W').F a = none := by
              cases q : (backW W W').F a with
              | none => rfl
              | some o =>
                rcases backF_cases q with z | ⟨_, z, φ, y⟩
                · rw [sm a o z] at hn; cases hn
                · rw [e] at z; cases z; cases y
            exact p (backW W W') H' a xs (bare_step s) (bare_pen sm pn s sm' pn') (bare_same sm s sm') hn fn (pn.npa hn) (sm' _ _ e) z (r.atom h)
          · rw [if_neg h] at p; exact p.elim
end
section
variable {X : Cx} {tb : Tb} {B : WX} {k n : Nat} {f : Addr} {fd : FuncData} {ps : List Str} {μ : Mu}
def lCall (μ : Mu) (g : SE (List Dv)) : SE (List PyData) := fun ρ π => (g ρ π).bind fun ds π1 => if ds.all atomD = true then newL π1 (μ ds none) else .bad
/-- f(e, ..), the new list that it returns held -/
theorem l_fn {x : Str} {p pos : Pos} {e : Expr} {es : List Expr} {g : SE (List Dv)} (D : Def X.prog X.w X.K X.mg X.base tb k x ps μ) (hr : Room n X.A) (gd : X.A.guards = some []) (tk : Takes X B)
    (ha : PA X (e :: es) (tA (Cx.md X tb) B g)) (hl : ∀ ρ π ds π', g ρ π = .ok ds π' → ds.length = ps.length) (hk : k ≤ n := by first | decide | omega) (hg : Gl X x := by rfl) (hdb : (x == ("__debug__" : Str)) = false := by decide) (he : starEach (e :: es) X.env = (false, eval e X.env) :: starEach es X.env := by rfl)
    (hpl : (backTo pos (starEach es X.env)).any (·.1) = false := by rfl) : PE X (.Call (.Name x p) (e :: es) [] pos) (tL (Cx.md X tb) B (lCall μ g)) := by
  obtain ⟨f, fd, F, hm, hkp, hb⟩ := D.ex
  refine ⟨fun pins s σ H Q I ⟨W, ρ, π, st, q⟩ => ?_⟩
  unfold lCall at q
  refine wpAny_Call_Name_kw (ld_glob I hg hm (PySem.W.callWith_K (h₀ := X.base) I.ok.mod.kin hkp ?_ he hpl) hdb)
  have key : tA (Cx.md X tb) B g σ H (fun vs H1 => ∃ W1 ds, W1.tb = tb ∧ Same W1.F H1 ∧ PenOk W1 H1 none ∧ RvL (Cx.md X tb) W1 vs ds ∧ ds.length = ps.length ∧ Post (Cx.md X tb) (Rv (Cx.md X tb)) B W1 H1 σ Q (μ ds none)) := by
    refine ⟨W, ρ, π, st, ?_⟩
    cases z : g ρ π with
    | bad => rw [z] at q; exact q
    | exn n π' => rw [z] at q; exact q
    | ok ds π1 =>
      rw [z] at q
      have q : PostL (Cx.md X tb) B W H σ Q (if ds.all atomD = true then newL π1 (μ ds none) else .bad) := q
      by_cases h : ds.all atomD = true
      · rw [if_pos h] at q
        intro W1 H1 vs s1 pn1 sm1 r1
        have q1 : PostL (Cx.md X tb) B W1 H1 σ Q (newL π1 (μ ds none)) := by
          cases y : newL π1 (μ ds none) with
          | bad => rw [y] at q; exact q
          | exn n π' => rw [y] at q; exact fun W' H' C t pn sm e => q W' H' C (s1.trans t) pn sm e
          | ok es π' => rw [y] at q; exact fun W' H' p xs t pn sm n nf np eq z r => q W' H' p xs (s1.trans t) pn sm (by
              cases o : H p with
              | none => rfl
              | some o' => exact absurd (s1.there p n) (by rw [o]; exact fun z => nomatch z)) nf np eq z r
        exact ⟨bareW W1, ds, s1.tb.trans st.tbe, bareF_sub.trans sm1, bare_pen0 pn1, r1.atom h, hl _ _ _ _ z, post_new sm1 pn1 q1⟩
      · rw [if_neg h] at q; exact q.elim
  refine thn (ha.run pos pins s σ H _ I key) fun us s1 ⟨vs, H1, I1, r, W1, ds, tt1, sm1, pn1, r1, hl1, q1⟩ => ⟨I1.kIn, ?_⟩
  have hl2 : us.length = ps.length := by rw [← r.length, r1.length, hl1]
  have hb' : BindsTo s1 fd ⟨us, []⟩ (ps.zip us) := by
    have := hb s1 us I1.kIn (by rw [List.append_nil]; exact hl2)
    rwa [List.append_nil] at this
  refine wpAny_call (codeAny_mono ((F.mono hk).run X.A X.stack s1 H1 ⟨us, []⟩ us vs W1 ds none Q (WE B σ) hr gd I1.env0 hb' r r1 hl1 tt1 sm1 pn1 (q1.sig fun c d H h => h)) fun r s' hq => ?_)
  cases r with
  | error e => exact passAt tk σ pins H1 s1 e s' I1 hq
  | ok fl =>
    cases fl with
    | ret u => exact I1.after hq
    | next => exact False.elim hq
    | brk => exact False.elim hq
    | cont => exact False.elim hq
end
/-! ### running it -/
section
variable {E : Str → Pn → Prop} {ρ : List Sv} {π : Pn}
theorem w_lcall {μ : Mu} {g : SE (List Dv)} {Q : List PyData → Pn → Prop} (h : wR (g ρ π) E fun ds π1 => ds.all atomD = true ∧ wR (μ ds none) (fun n π2 => π2 = none ∧ E n π1) (fun d π2 => π2 = none ∧ ∃ es, d = .val (.list es) ∧ es.all atomP = true ∧ Q es π1)) : wR (lCall μ g ρ π) E Q := by
  refine wR_bind (wR_mono h ?_ fun _ _ x => x)
  rintro ds π1 ⟨h1, h2⟩
  show wR (if ds.all atomD = true then newL π1 (μ ds none) else .bad) E Q
  rw [if_pos h1]
  cases y : μ ds none with
  | bad => rw [y] at h2; exact h2
  | exn n π2 => rw [y] at h2; obtain ⟨rfl, h2⟩ := h2; exact h2
  | ok d π2 =>
    rw [y] at h2
    obtain ⟨rfl, es, rfl, h3, h4⟩ := h2
    show wR (if es.all atomP = true then .ok es π1 else .bad) E Q
    rw [if_pos h3]; exact h4
end
/-! ### repr of a held list -/
section
variable {X : Cx} {tb : Tb} {B : WX}
def canRepr (d : PyData) : Prop := d.showable = true ∧ d.hasDict = false ∧ d.depth ≤ 40 ∧ d.shown.length ≤ 16777216
instance (d : PyData) : Decidable (canRepr d) := by unfold canRepr; infer_instance
def rReprO : List V → Hp → VK → Prop := fun vs H Q => ∃ (F : Hp) (a : Addr) (xs : List V) (ds : List PyData), vs = [.ref a] ∧ Same F H ∧ F a = some (.lst xs) ∧ xs.length ≤ sizeLine ∧ DqAll F xs ds ∧ canRepr (.list ds) ∧ Q (.str (PyData.list ds).shown) H
theorem k_reprO (hg : X.A.guards = some []) (hu : X.A.units + 64 < cLine) : CallR X (.builtin "repr") rReprO := by
  rintro pins s σ H ws us Q I r ⟨F, a, xs, ds, rfl, sm, ea, za, ra, ⟨h1, h2, h3, h4⟩, q⟩
  obtain ⟨u, rfl, ru⟩ := vals1 r
  cases ru
  obtain ⟨as, hr⟩ := Dp.reads I _ _ _ ((Dq.lst ea za ra).dp (K := X.K) sm) rfl
  exact repr_of_reads' hr h1 (PyData.noDict_hsm h2) hg (by omega) (fun _ _ e => e) (fun h' t tk hk => ⟨.str (PyData.list ds).shown, H, I.kept hk, ⟨t, rfl⟩, q⟩) (line_le.mp h4)
def eReprO (i : Nat) : SE Dv := fun ρ π => match ρ[i]? with
  | some (.own ds) => if canRepr (.list ds) then .ok (.val (.str (PyData.list ds).shown)) π else .bad
  | _ => .bad
theorem e_reprO (i : Nat) {x : Str} {p p2 pos : Pos} (gd : X.A.guards = some []) (hu : X.A.units + 64 < cLine) (hm : X.mg "repr" = none) (hg : Gl X "repr" := by rfl) (hN : X.N[i]? = some x := by rfl) (hv : Vis X.env.scope x := by first | exact Or.inl rfl | exact Or.inr (Or.inl rfl) | exact Or.inr (Or.inr rfl)) (he : starEach [.Name x p2] X.env = (false, eval (.Name x p2) X.env) :: starEach [] X.env := by rfl)
    (hpl : (backTo pos (starEach [] X.env)).any (·.1) = false := by rfl) (hd : (x == ("__debug__" : Str)) = false := by decide) (hcd : (x == ("__classdict__" : Str)) = false := by decide) : PE X (.Call (.Name "repr" p) [.Name x p2] [] pos) (tE (Cx.md X tb) B (eReprO i)) := by
  refine PE.weak (pe_callB (k_reprO gd hu) hg hm rfl (pa_cons (pe_var hN hv hd hcd) pa_nil he) (by decide) (by decide) he hpl) ?_
  rintro σ H Q ⟨W, ρ, π, st, p⟩
  unfold eReprO at p
  split at p
  · rename_i ds e
    split at p
    · rename_i hc
      obtain ⟨a, xs, h1, h2, h3, h4, h5, h6⟩ := own_at st e
      refine ⟨_, h1, upd W.F a (.lst xs), a, xs, ds, rfl, ?_, upd_same, h5, h6.mono ?_, hc, p.now st.pen st.same (.val (.str _))⟩
      · intro b o q
        by_cases hb : b = a
        · subst hb; rw [upd_same] at q; cases q; exact h4
        · rw [upd_ne hb] at q; exact st.same b o q
      · intro b o q
        have hb : b ≠ a := fun z => by rw [z, h2] at q; cases q
        rw [upd_ne hb]; exact q
    · exact p.elim
  · exact p.elim
end
theorem w_reprO {i : Nat} {ρ : List Sv} {π : Pn} {E : Str → Pn → Prop} {Q : Dv → Pn → Prop} {ds : List PyData} {k n : Nat} (e : ρ[i]? = some (.own ds)) (h1 : (PyData.list ds).showable = true) (h2 : (PyData.list ds).hasDict = false) (h3 : (PyData.list ds).depth ≤ 40) (h4 : (PyData.list ds).shown.length ≤ 16777216) (h : Q (.val (.str (PyData.list ds).shown)) π) : wR (eReprO i ρ π) E Q := by
  unfold eReprO
  rw [e]
  show wR (if canRepr (.list ds) then _ else _) E Q
  rw [if_pos ⟨h1, h2, h3, h4⟩]; exact h
end DL

set_option maxRecDepth 100000
set_option maxHeartbeats 8000000
/-! DLK: comprehensions with two for. -/
namespace DL
open PySem PySem.Spec PyProof.Rows L2
def comp2Go (tg : PyData → List Sv → Option (List Sv)) (c : SE Bool) (it1 : SE (List PyData)) (tg1 : PyData → List Sv → Option (List Sv)) (c1 : SE Bool) (f : SE Dv) (vs1 : List Nat) (ρ : List Sv) : List PyData → Pn → Res (List PyData)
  | [], π => .ok [] π
  | d :: r, π => match tg d ρ with
    | none => .bad
    | some ρ1 => (noexn (c ρ1 π)).bind fun b π1 => if b = true then (noexn (it1 ρ1 π1)).bind fun ds1 π2 => (compGo tg1 c1 f (wipeS ρ1 vs1) ds1 π2).bind fun es π3 => (comp2Go tg c it1 tg1 c1 f vs1 ρ r π3).bind fun rs π4 => .ok (es ++ rs) π4
      else comp2Go tg c it1 tg1 c1 f vs1 ρ r π1
def lComp2 (it : SE (List PyData)) (tg : PyData → List Sv → Option (List Sv)) (c : SE Bool) (it1 : SE (List PyData)) (tg1 : PyData → List Sv → Option (List Sv)) (c1 : SE Bool) (f : SE Dv) (vs vs1 : List Nat) : SE (List PyData) := fun ρ π =>
  (it ρ π).bind fun ds π1 => match comp2Go tg c it1 tg1 c1 f vs1 (wipeS ρ vs) ds π1 with
    | .ok es π2 => if es.length < 16777216 then .ok es π2 else .bad
    | _ => .bad
/-- what a result means behind the values that the list holds already -/
def PostK (M : Md) (W : Wd) (H : Hp) (D : Addr) (Q : VK) (acc : List PyData) : Res (List PyData) → Prop
  | .ok ds π' => acc.length + ds.length < 16777216 ∧ ∀ W' H' xs, Step W H W' H' → PenOk W' H' π' → Same W'.F H' → W'.F D = none → W'.pa ≠ some D → H' D = some (.lst xs) → xs.length ≤ sizeLine → DqAll W'.F xs (acc ++ ds) → Q (.ref D) H'
  | _ => False
theorem PostK.len {M : Md} {W : Wd} {H : Hp} {D : Addr} {Q : VK} {acc : List PyData} {r : Res (List PyData)} (p : PostK M W H D Q acc r) : acc.length < 16777216 := by
  cases r with
  | ok ds π => exact Nat.lt_of_le_of_lt (Nat.le_add_right _ _) p.1
  | exn _ _ => exact p.elim
  | bad => exact p.elim
theorem PostK.push {M : Md} {W : Wd} {H : Hp} {D : Addr} {Q : VK} {acc : List PyData} {y : PyData} {r : Res (List PyData)} {k : List PyData → Pn → Res (List PyData)} (hk : ∀ es π, k (y :: es) π = (k es π).bind fun rs π => .ok (y :: rs) π)
    (p : PostK M W H D Q acc ((r.bind fun ds π => .ok (y :: ds) π).bind k)) : PostK M W H D Q (acc ++ [y]) (r.bind k) := by
  cases r with
  | bad => exact p
  | exn _ _ => exact p
  | ok es π =>
    have p : PostK M W H D Q acc (k (y :: es) π) := p
    rw [hk] at p
    show PostK M W H D Q (acc ++ [y]) (k es π)
    cases q : k es π with
    | bad => rw [q] at p; exact p
    | exn _ _ => rw [q] at p; exact p
    | ok rs π2 =>
      rw [q] at p
      obtain ⟨a, b⟩ := p
      refine ⟨by simp at a ⊢; omega, fun W' H' xs s pn sm h1 h2 h3 h4 h5 => b W' H' xs s pn sm h1 h2 h3 h4 (by rw [List.append_assoc] at h5; exact h5)⟩
/-- the state behind some turns -/
structure Acc2 (M : Md) (W1 : Wd) (H1 : Hp) (D : Addr) (ρ : List Sv) (σ : L2.St) (acc : List PyData) (W : Wd) (π : Pn) (H : Hp) (xs : List V) : Prop where
  s : Step W1 H1 W H
  st : StE M W H ρ π σ
  nf : W.F D = none
  np : W.pa ≠ some D
  e : H D = some (.lst xs)
  l : xs.length = acc.length
  r : DqAll W.F xs acc
theorem D_stay {W W' : Wd} {H H' : Hp} {D : Addr} {xs : List V} (s : Step W H W' H') (nf : W.F D = none) (np : W.pa ≠ some D) (e : H D = some (.lst xs)) : W'.F D = none ∧ W'.pa ≠ some D ∧ H' D = some (.lst xs) := by
  refine ⟨?_, fun z => ?_, s.keep D _ e np .lst⟩
  · cases z : W'.F D with
    | none => rfl
    | some o =>
      rcases s.grow D o z with k | k
      · rw [nf] at k; cases k
      · rw [e] at k; cases k
  · rcases s.newpa D z with k | k
    · exact np k
    · rw [e] at k; cases k
theorem Acc2.step {M : Md} {W1 : Wd} {H1 : Hp} {D : Addr} {ρ : List Sv} {σ : L2.St} {acc : List PyData} {W W' : Wd} {π π' : Pn} {H H' : Hp} {xs : List V} (a : Acc2 M W1 H1 D ρ σ acc W π H xs) (s : Step W H W' H') (pn : PenOk W' H' π') (sm : Same W'.F H') : Acc2 M W1 H1 D ρ σ acc W' π' H' xs := by
  obtain ⟨h1, h2, h3⟩ := D_stay s a.nf a.np a.e
  exact ⟨a.s.trans s, a.st.step s pn sm, h1, h2, h3, a.l, a.r.mono s.sub⟩
theorem wipeS_own {ρ : List Sv} {i : Nat} {es : List PyData} : ∀ {vs : List Nat}, (wipeS ρ vs)[i]? = some (.own es) → i ∉ vs ∧ ρ[i]? = some (.own es)
  | [], h => ⟨List.not_mem_nil, h⟩
  | v :: vs, h => by
    unfold wipeS at h
    rcases get_set h with ⟨_, z, _⟩ | ⟨ne, h⟩
    · cases z
    · obtain ⟨a, b⟩ := wipeS_own h
      refine ⟨fun m => ?_, b⟩
      rcases List.mem_cons.mp m with e | e
      · exact ne e.symm
      · exact a e
section
variable {X : Cx} {tb : Tb} {M : Md} {B : WX}
theorem lc2_imp {D0 D1 : Itm} {it it1 : SE (List PyData)} {g g1 : TG} {is is1 vs vs1 : List Nat} {tg tg1 : PyData → List Sv → Option (List Sv)} {c c1 : SE Bool} {f : SE Dv} (gd : GDG D0 g is tg) (hv : ∀ i ∈ is, i ∈ vs) (gd1 : GDG D1 g1 is1 tg1) (hv1 : ∀ i ∈ is1, i ∈ vs1) :
    ∀ σ H Q, tL M B (lComp2 it tg c it1 tg1 c1 f vs vs1) σ H Q → tLc2 (tIG D0 M B it) g (tT M B0 c) (tIG D1 M B0 it1) g1 (tT M B0 c1) (tE M B0 f) vs vs1 σ H Q := by
  rintro σ H Q ⟨W, ρ, π, st, p⟩
  refine ⟨W, ρ, π, st, ?_⟩
  unfold lComp2 at p
  cases q : it ρ π with
  | bad => rw [q] at p; exact p
  | exn n π' => rw [q] at p; exact p
  | ok ds π1 =>
    rw [q] at p
    have p : PostL M B W H σ Q (match comp2Go tg c it1 tg1 c1 f vs1 (wipeS ρ vs) ds π1 with
      | .ok es π2 => if es.length < 16777216 then .ok es π2 else .bad
      | _ => .bad) := p
    intro W1 H1 J s1 pn1 sm1 w D nD
    have st1 := (st.step s1 pn1 sm1).wipe vs
    have ap : ∀ (i : Nat) (es : List PyData), (wipeS ρ vs)[i]? = some (.own es) → (L2.wipe σ vs)[i]? ≠ some (some (.ref D)) := fun i es h1 h2 => by
      obtain ⟨o, g1, g2⟩ := st1.sl i _ h1
      rw [h2] at g1; cases g1
      cases g2 with
      | own _ _ h3 _ _ => rw [nD] at h3; cases h3
    obtain ⟨sD, pnD, smD⟩ := freshOwn (o := .lst []) sm1 pn1 nD
    have npD : W1.pa ≠ some D := pn1.npa nD
    have p0 : PostK M W1 H1 D Q [] (comp2Go tg c it1 tg1 c1 f vs1 (wipeS ρ vs) ds π1) := by
      cases e : comp2Go tg c it1 tg1 c1 f vs1 (wipeS ρ vs) ds π1 with
      | bad => rw [e] at p; exact p
      | exn n π' => rw [e] at p; exact p.elim
      | ok es π2 =>
        rw [e] at p
        have p : PostL M B W H σ Q (if es.length < 16777216 then .ok es π2 else .bad) := p
        split at p
        case isFalse => exact p.elim
        case isTrue hl =>
        exact ⟨by simpa using hl, fun W' H' xs s pn sm a1 a2 a3 a4 a5 => p W' H' D xs (s1.trans s) pn sm (s1.there D nD) a1 a2 a3 a4 a5⟩
    have a0 : Acc2 M W1 H1 D (wipeS ρ vs) (L2.wipe σ vs) [] W1 π1 (upd H1 D (.lst [])) [] := ⟨sD, st1.step sD pnD smD, sm1.free nD, npD, upd_same, rfl, .nil⟩
    refine ⟨fun i m H => m = ds.length - i ∧ i ≤ ds.length ∧ ∃ W2 π2 xs acc, Acc2 M W1 H1 D (wipeS ρ vs) (L2.wipe σ vs) acc W2 π2 H xs ∧ PostK M W1 H1 D Q acc (comp2Go tg c it1 tg1 c1 f vs1 (wipeS ρ vs) (ds.drop i) π2),
      ⟨ds.length, by simp, Nat.zero_le _, W1, π1, [], [], a0, p0⟩, ?_⟩
    rintro i m H2 ⟨rfl, hi, W2, π2, xs, acc, a2, p2⟩
    by_cases hlt : i < ds.length
    · refine .inr ⟨w.go i H2 hlt (a2.s.sub.trans a2.st.same), fun H' => ∃ W3 π3 xs acc, Acc2 M W1 H1 D (wipeS ρ vs) (L2.wipe σ vs) acc W3 π3 H' xs ∧ PostK M W1 H1 D Q acc (comp2Go tg c it1 tg1 c1 f vs1 (wipeS ρ vs) (ds.drop (i + 1)) π3),
        fun H' h => ⟨ds.length - (i + 1), by omega, rfl, hlt, h⟩, fun x H3 y => ?_⟩
      have ei : ds[i]? = some ds[i] := by simp [hlt]
      obtain ⟨W3, s3, pn3, sm3, rx⟩ := w.yld i H2 x H3 W2 π2 ds[i] y ei a2.s.sub a2.st.same a2.st.pen
      rw [List.drop_eq_getElem_cons hlt] at p2
      unfold comp2Go at p2
      cases q3 : tg ds[i] (wipeS ρ vs) with
      | none => simp only [q3] at p2; exact p2.elim
      | some ρ3 =>
        simp only [q3] at p2
        refine gd.run (a2.st.step s3 pn3 sm3) rx q3 fun σ4 st4 o4 f4 l4 => ⟨?_, W3, ρ3, π2, st4, ?_⟩
        · refine (wipe_eq l4 fun j hj => f4 j fun z => hj (hv j z)).trans ?_
          exact wipe_eq (wipe_length _ _) fun j hj => wipe_out' hj
        have ap1 : ∀ (i : Nat) (es : List PyData), (wipeS ρ3 vs1)[i]? = some (.own es) → (L2.wipe σ4 vs1)[i]? ≠ some (some (.ref D)) := fun i es h1 h2 => by
          obtain ⟨n1, h1⟩ := wipeS_own h1
          rw [wipe_out' n1] at h2
          obtain ⟨b1, b2⟩ := o4 i es h1
          rw [b2] at h2
          exact ap i es b1 h2
        cases q4 : c ρ3 π2 with
        | bad => rw [q4] at p2; exact p2.elim
        | exn _ _ => rw [q4] at p2; exact p2.elim
        | ok b π4 =>
          rw [q4] at p2
          have p2 : PostK M W1 H1 D Q acc (if b = true then (noexn (it1 ρ3 π4)).bind (fun ds1 π2 => (compGo tg1 c1 f (wipeS ρ3 vs1) ds1 π2).bind fun es π3 => (comp2Go tg c it1 tg1 c1 f vs1 (wipeS ρ vs) (ds.drop (i + 1)) π3).bind fun rs π4 => .ok (es ++ rs) π4)
            else comp2Go tg c it1 tg1 c1 f vs1 (wipeS ρ vs) (ds.drop (i + 1)) π4) := p2
          intro W4 H4 b' s4 pn4 sm4 eb
          subst eb
          have a4 := a2.step (s3.trans s4) pn4 sm4
          cases b' with
          | false =>
            rw [if_neg Bool.false_ne_true] at p2 ⊢
            exact ⟨W4, π4, xs, acc, a4, p2⟩
          | true =>
            rw [if_pos rfl] at p2 ⊢
            refine ⟨W4, ρ3, π4, st4.step s4 pn4 sm4, ?_⟩
            cases q5 : it1 ρ3 π4 with
            | bad => rw [q5] at p2; exact p2.elim
            | exn _ _ => rw [q5] at p2; exact p2.elim
            | ok ds1 π5 =>
              rw [q5] at p2
              have p2 : PostK M W1 H1 D Q acc ((compGo tg1 c1 f (wipeS ρ3 vs1) ds1 π5).bind fun es π3 => (comp2Go tg c it1 tg1 c1 f vs1 (wipeS ρ vs) (ds.drop (i + 1)) π3).bind fun rs π4 => .ok (es ++ rs) π4) := p2
              intro W5 H5 J1 s5 pn5 sm5 w1
              have a5 := a4.step s5 pn5 sm5
              have st5 := ((st4.step s4 pn4 sm4).step s5 pn5 sm5).wipe vs1
              have hk : ∀ (y : PyData) (es : List PyData) (π : Pn), ((comp2Go tg c it1 tg1 c1 f vs1 (wipeS ρ vs) (ds.drop (i + 1)) π).bind fun rs π4 => Res.ok (y :: es ++ rs) π4) = ((comp2Go tg c it1 tg1 c1 f vs1 (wipeS ρ vs) (ds.drop (i + 1)) π).bind fun rs π4 => Res.ok (es ++ rs) π4).bind fun rs π => .ok (y :: rs) π := fun y es π => by
                cases comp2Go tg c it1 tg1 c1 f vs1 (wipeS ρ vs) (ds.drop (i + 1)) π <;> rfl
              refine ⟨fun j k H => k = ds1.length - j ∧ j ≤ ds1.length ∧ ∃ W6 π6 xs acc, Acc2 M W1 H1 D (wipeS ρ vs) (L2.wipe σ vs) acc W6 π6 H xs ∧ StE M W6 H (wipeS ρ3 vs1) π6 (L2.wipe σ4 vs1) ∧ Same W5.F W6.F ∧ PostK M W1 H1 D Q acc ((compGo tg1 c1 f (wipeS ρ3 vs1) (ds1.drop j) π6).bind fun es π3 => (comp2Go tg c it1 tg1 c1 f vs1 (wipeS ρ vs) (ds.drop (i + 1)) π3).bind fun rs π4 => .ok (es ++ rs) π4),
                ⟨ds1.length, by simp, Nat.zero_le _, W5, π5, xs, acc, a5, st5, Same.refl _, p2⟩, ?_⟩
              rintro j k H6 ⟨rfl, hj, W6, π6, xs6, acc6, a6, st6, sub6, p6⟩
              by_cases hlt1 : j < ds1.length
              · refine .inr ⟨w1.go j H6 hlt1 (sub6.trans st6.same), fun H' => ∃ W6 π6 xs acc, Acc2 M W1 H1 D (wipeS ρ vs) (L2.wipe σ vs) acc W6 π6 H' xs ∧ StE M W6 H' (wipeS ρ3 vs1) π6 (L2.wipe σ4 vs1) ∧ Same W5.F W6.F ∧ PostK M W1 H1 D Q acc ((compGo tg1 c1 f (wipeS ρ3 vs1) (ds1.drop (j + 1)) π6).bind fun es π3 => (comp2Go tg c it1 tg1 c1 f vs1 (wipeS ρ vs) (ds.drop (i + 1)) π3).bind fun rs π4 => .ok (es ++ rs) π4),
                  fun H' h => ⟨ds1.length - (j + 1), by omega, rfl, hlt1, h⟩, fun x H7 y1 => ?_⟩
                have ej : ds1[j]? = some ds1[j] := by simp [hlt1]
                obtain ⟨W7, s7, pn7, sm7, rx7⟩ := w1.yld j H6 x H7 W6 π6 ds1[j] y1 ej sub6 st6.same st6.pen
                rw [List.drop_eq_getElem_cons hlt1] at p6
                unfold compGo at p6
                cases q7 : tg1 ds1[j] (wipeS ρ3 vs1) with
                | none => simp only [q7] at p6; exact p6.elim
                | some ρ7 =>
                  simp only [q7] at p6
                  refine gd1.run (st6.step s7 pn7 sm7) rx7 q7 fun σ8 st8 o8 f8 l8 => ⟨?_, W7, ρ7, π6, st8, ?_⟩
                  · refine (wipe_eq l8 fun j hj => f8 j fun z => hj (hv1 j z)).trans ?_
                    exact wipe_eq (wipe_length _ _) fun j hj => wipe_out' hj
                  cases q8 : c1 ρ7 π6 with
                  | bad => rw [q8] at p6; exact p6.elim
                  | exn _ _ => rw [q8] at p6; exact p6.elim
                  | ok b π8 =>
                    rw [q8] at p6
                    intro W8 H8 b' s8 pn8 sm8 eb
                    subst eb
                    have a8 := a6.step (s7.trans s8) pn8 sm8
                    have st8i := st6.step (s7.trans s8) pn8 sm8
                    have sub8 := sub6.trans (s7.trans s8).sub
                    cases b' with
                    | false =>
                      rw [if_neg Bool.false_ne_true]
                      exact ⟨W8, π8, xs6, acc6, a8, st8i, sub8, p6⟩
                    | true =>
                      rw [if_pos rfl]
                      refine ⟨W8, ρ7, π8, st8.step s8 pn8 sm8, ?_⟩
                      have p6 : PostK M W1 H1 D Q acc6 (((noexn (f ρ7 π8)).bind fun v π2 => (match v with
                        | .val y => (compGo tg1 c1 f (wipeS ρ3 vs1) (ds1.drop (j + 1)) π2).bind fun ds π3 => .ok (y :: ds) π3
                        | _ => .bad)).bind fun es π3 => (comp2Go tg c it1 tg1 c1 f vs1 (wipeS ρ vs) (ds.drop (i + 1)) π3).bind fun rs π4 => .ok (es ++ rs) π4) := p6
                      cases q9 : f ρ7 π8 with
                      | bad => rw [q9] at p6; exact p6.elim
                      | exn _ _ => rw [q9] at p6; exact p6.elim
                      | ok v π9 =>
                        rw [q9] at p6
                        intro W9 H9 y' s9 pn9 sm9 ry
                        have a9 := a8.step s9 pn9 sm9
                        cases v with
                        | pen => exact p6.elim
                        | scr _ => exact p6.elim
                        | err _ => exact p6.elim
                        | ppr _ => exact p6.elim
                        | dct _ => exact p6.elim
                        | fn _ => exact p6.elim
                        | val yd =>
                          have ry : Dq W9.F y' yd := by cases ry with | val r => exact r
                          have p6 : PostK M W1 H1 D Q acc6 (((compGo tg1 c1 f (wipeS ρ3 vs1) (ds1.drop (j + 1)) π9).bind fun ds π3 => .ok (yd :: ds) π3).bind fun es π3 => (comp2Go tg c it1 tg1 c1 f vs1 (wipeS ρ vs) (ds.drop (i + 1)) π3).bind fun rs π4 => .ok (es ++ rs) π4) := p6
                          have hz : xs6.length < sizeLine := by
                            have := sizeLine_eq
                            have := p6.len
                            have := a6.l
                            omega
                          exact ⟨xs6, a9.e, hz, W9, π9, xs6 ++ [y'], acc6 ++ [yd], ⟨step_D a9.s nD, a9.st.writeD a9.nf a9.np a9.e ap, a9.nf, a9.np, upd_same, by simp [a9.l], a9.r.append (.cons ry .nil)⟩,
                            (st8i.step s9 pn9 sm9).writeD a9.nf a9.np a9.e ap1, sub8.trans s9.sub, PostK.push (hk yd) p6⟩
              · have e : j = ds1.length := by omega
                subst e
                rw [List.drop_length] at p6
                refine .inl ⟨w1.stop H6 (sub6.trans st6.same), W6, π6, xs6, acc6, a6, ?_⟩
                have p6 : PostK M W1 H1 D Q acc6 ((comp2Go tg c it1 tg1 c1 f vs1 (wipeS ρ vs) (ds.drop (i + 1)) π6).bind fun rs π4 => .ok ([] ++ rs) π4) := p6
                cases z : comp2Go tg c it1 tg1 c1 f vs1 (wipeS ρ vs) (ds.drop (i + 1)) π6 with
                | bad => rw [z] at p6; exact p6
                | exn _ _ => rw [z] at p6; exact p6
                | ok rs π7 => rw [z] at p6; exact p6
    · have e : i = ds.length := by omega
      subst e
      rw [List.drop_length] at p2
      have p2 : PostK M W1 H1 D Q acc (.ok [] π2) := p2
      refine .inl ⟨w.stop H2 (a2.s.sub.trans a2.st.same), p2.2 W2 H2 xs a2.s a2.st.pen a2.st.same a2.nf a2.np a2.e ?_ (by rw [List.append_nil]; exact a2.r)⟩
      have h0 := sizeLine_eq
      have h1 : acc.length + 0 < 16777216 := p2.1
      have h2 := a2.l
      omega
/-- [e for a in x if .. for b in y if ..] -/
theorem l_comp2 {D0 D1 : Itm} {elt tg iter tg1 iter1 : Expr} {ifs ifs1 : List Expr} {scope : Scope} {pos : Pos} {it it1 : SE (List PyData)} {g g1 : TG} {is is1 : List Nat} {tgt tgt1 : PyData → List Sv → Option (List Sv)} {c c1 : SE Bool} {f : SE Dv} (own : List (Str × Nat)) (hc : X.calm = true) (hN : X.N.Nodup) (hi : PI X tg iter (tIG D0 M B it))
    (ok : BlkOk X.N X.env.scope scope own) (gd : GDG D0 g is tgt) (hv : ∀ i ∈ is, i ∈ own.map (·.2)) (gd1 : GDG D1 g1 is1 tgt1) (hv1 : ∀ i ∈ is1, i ∈ own.map (·.2))
    (hg : ∀ (s : Shared) (H : Hp) (C : Addr) (cl : List (Str × Addr)) (fp : List Addr), PG (Cx.blk X s H scope (compEnvC scope cl C X.env) fp) tg g) (ht : ∀ (s : Shared) (H : Hp) (C : Addr) (cl : List (Str × Addr)) (fp : List Addr), PTs (Cx.blk X s H scope (compEnvC scope cl C X.env) fp) ifs (tT M B0 c))
    (hi1 : ∀ (s : Shared) (H : Hp) (C : Addr) (cl : List (Str × Addr)) (fp : List Addr), PI (Cx.blk X s H scope (compEnvC scope cl C X.env) fp) tg1 iter1 (tIG D1 M B0 it1))
    (hg1 : ∀ (s : Shared) (H : Hp) (C : Addr) (cl : List (Str × Addr)) (fp : List Addr), PG (Cx.blk X s H scope (compEnvC scope cl C X.env) fp) tg1 g1) (ht1 : ∀ (s : Shared) (H : Hp) (C : Addr) (cl : List (Str × Addr)) (fp : List Addr), PTs (Cx.blk X s H scope (compEnvC scope cl C X.env) fp) ifs1 (tT M B0 c1))
    (he : ∀ (s : Shared) (H : Hp) (C : Addr) (cl : List (Str × Addr)) (fp : List Addr), PE (Cx.blk X s H scope (compEnvC scope cl C X.env) fp) elt (tE M B0 f)) (hs : ∀ x, foldedSetIterable iter X.env x = pure x := by intro _; rfl) (hs1 : ∀ env x, foldedSetIterable iter1 env x = pure x := by intro _ _; rfl) :
    PE X (.ListComp elt [⟨tg, iter, ifs, 0⟩, ⟨tg1, iter1, ifs1, 0⟩] scope pos) (tL M B (lComp2 it tgt c it1 tgt1 c1 f (own.map (·.2)) is1)) :=
  PE.weak (pe_lc2 hc hN hi ok hv1 hg ht hi1 hg1 ht1 he hs hs1) (lc2_imp gd hv gd1 fun _ h => h)
theorem s_setLc2 {D0 D1 : Itm} {W0 : Wd} {H0 : Hp} {elt tg iter tg1 iter1 : Expr} {ifs ifs1 : List Expr} {scope : Scope} {py pos spos : Pos} {y : Str} {it it1 : SE (List PyData)} {g g1 : TG} {is is1 : List Nat} {tgt tgt1 : PyData → List Sv → Option (List Sv)} {c c1 : SE Bool} {f : SE Dv} (i : Nat) (own : List (Str × Nat)) (hc : X.calm = true) (hN : X.N.Nodup) (hi : PI X tg iter (tIG D0 M B it))
    (ok : BlkOk X.N X.env.scope scope own) (gd : GDG D0 g is tgt) (hv : ∀ i ∈ is, i ∈ own.map (·.2)) (gd1 : GDG D1 g1 is1 tgt1) (hv1 : ∀ i ∈ is1, i ∈ own.map (·.2))
    (hg : ∀ (s : Shared) (H : Hp) (C : Addr) (cl : List (Str × Addr)) (fp : List Addr), PG (Cx.blk X s H scope (compEnvC scope cl C X.env) fp) tg g) (ht : ∀ (s : Shared) (H : Hp) (C : Addr) (cl : List (Str × Addr)) (fp : List Addr), PTs (Cx.blk X s H scope (compEnvC scope cl C X.env) fp) ifs (tT M B0 c))
    (hi1 : ∀ (s : Shared) (H : Hp) (C : Addr) (cl : List (Str × Addr)) (fp : List Addr), PI (Cx.blk X s H scope (compEnvC scope cl C X.env) fp) tg1 iter1 (tIG D1 M B0 it1))
    (hg1 : ∀ (s : Shared) (H : Hp) (C : Addr) (cl : List (Str × Addr)) (fp : List Addr), PG (Cx.blk X s H scope (compEnvC scope cl C X.env) fp) tg1 g1) (ht1 : ∀ (s : Shared) (H : Hp) (C : Addr) (cl : List (Str × Addr)) (fp : List Addr), PTs (Cx.blk X s H scope (compEnvC scope cl C X.env) fp) ifs1 (tT M B0 c1))
    (he : ∀ (s : Shared) (H : Hp) (C : Addr) (cl : List (Str × Addr)) (fp : List Addr), PE (Cx.blk X s H scope (compEnvC scope cl C X.env) fp) elt (tE M B0 f))
    (hy : X.N[i]? = some y := by rfl) (hyl : X.env.scope.names.lookup y = some .local := by rfl) (hsw : swapsWith (.ListComp elt [⟨tg, iter, ifs, 0⟩, ⟨tg1, iter1, ifs1, 0⟩] scope pos) (some (.Name y py)) spos.line X.env = pure true := by exact sw_true rfl rfl rfl (by decide +kernel)) (hs : ∀ x, foldedSetIterable iter X.env x = pure x := by intro _; rfl) (hs1 : ∀ env x, foldedSetIterable iter1 env x = pure x := by intro _ _; rfl) :
    PS X (.Assign [.Name y py] (.ListComp elt [⟨tg, iter, ifs, 0⟩, ⟨tg1, iter1, ifs1, 0⟩] scope pos) spos) (tS M W0 H0 B (sSet i (eFrz (lComp2 it tgt c it1 tgt1 c1 f (own.map (·.2)) is1)))) :=
  PS.weak (ps_setLc2 hc hN hy hyl hsw hi ok hv1 hg ht hi1 hg1 ht1 he hs hs1) (set_imp fun σ H Q h => lc2_imp gd hv gd1 (fun _ h => h) σ H Q (frz_imp σ H Q h))
end
/-! ### running it -/
section
variable {E : Str → Pn → Prop} {π : Pn} {tg tg1 : PyData → List Sv → Option (List Sv)} {c c1 : SE Bool} {it it1 : SE (List PyData)} {f : SE Dv} {vs vs1 : List Nat} {ρ : List Sv} {Q : List PyData → Pn → Prop}
theorem w_c2nil (h : Q [] π) : wR (comp2Go tg c it1 tg1 c1 f vs1 ρ [] π) E Q := h
theorem w_c2cons {d : PyData} {r : List PyData} (h : wO (tg d ρ) fun ρ1 => wR (c ρ1 π) NE fun b π1 => wIf b (wR (it1 ρ1 π1) NE fun ds1 π2 => wR (compGo tg1 c1 f (wipeS ρ1 vs1) ds1 π2) E fun es π3 => wR (comp2Go tg c it1 tg1 c1 f vs1 ρ r π3) E fun rs π4 => Q (es ++ rs) π4) (wR (comp2Go tg c it1 tg1 c1 f vs1 ρ r π1) E Q)) :
    wR (comp2Go tg c it1 tg1 c1 f vs1 ρ (d :: r) π) E Q := by
  unfold comp2Go
  cases q : tg d ρ with
  | none => rw [q] at h; exact h.elim
  | some ρ1 =>
    rw [q] at h
    have h : wR (c ρ1 π) NE fun b π1 => wIf b (wR (it1 ρ1 π1) NE fun ds1 π2 => wR (compGo tg1 c1 f (wipeS ρ1 vs1) ds1 π2) E fun es π3 => wR (comp2Go tg c it1 tg1 c1 f vs1 ρ r π3) E fun rs π4 => Q (es ++ rs) π4) (wR (comp2Go tg c it1 tg1 c1 f vs1 ρ r π1) E Q) := h
    simp only []
    cases q2 : c ρ1 π with
    | bad => rw [q2] at h; exact h
    | exn _ _ => rw [q2] at h; exact h.elim
    | ok b π1 =>
      rw [q2] at h
      cases b with
      | false =>
        have h : wR (comp2Go tg c it1 tg1 c1 f vs1 ρ r π1) E Q := h
        exact h
      | true =>
        have h : wR (it1 ρ1 π1) NE fun ds1 π2 => wR (compGo tg1 c1 f (wipeS ρ1 vs1) ds1 π2) E fun es π3 => wR (comp2Go tg c it1 tg1 c1 f vs1 ρ r π3) E fun rs π4 => Q (es ++ rs) π4 := h
        show wR ((noexn (it1 ρ1 π1)).bind _) E Q
        cases q3 : it1 ρ1 π1 with
        | bad => rw [q3] at h; exact h
        | exn _ _ => rw [q3] at h; exact h.elim
        | ok ds1 π2 =>
          rw [q3] at h
          have h : wR (compGo tg1 c1 f (wipeS ρ1 vs1) ds1 π2) E fun es π3 => wR (comp2Go tg c it1 tg1 c1 f vs1 ρ r π3) E fun rs π4 => Q (es ++ rs) π4 := h
          show wR ((compGo tg1 c1 f (wipeS ρ1 vs1) ds1 π2).bind fun es π3 => (comp2Go tg c it1 tg1 c1 f vs1 ρ r π3).bind fun rs π4 => .ok (es ++ rs) π4) E Q
          exact wR_bind (wR_mono h (fun es π3 h => wR_bind h) fun _ _ x => x)
theorem w_lcomp2 (h : wR (it ρ π) E fun ds π1 => wR (comp2Go tg c it1 tg1 c1 f vs1 (wipeS ρ vs) ds π1) NE fun es π2 => es.length < 16777216 ∧ Q es π2) : wR (lComp2 it tg c it1 tg1 c1 f vs vs1 ρ π) E Q := by
  refine wR_bind (wR_mono h ?_ fun _ _ x => x)
  intro ds π1 h
  cases q : comp2Go tg c it1 tg1 c1 f vs1 (wipeS ρ vs) ds π1 with
  | bad => rw [q] at h; exact h
  | exn _ _ => rw [q] at h; exact h.elim
  | ok es π2 =>
    rw [q] at h
    obtain ⟨h1, h2⟩ := h
    show wR (if es.length < 16777216 then .ok es π2 else .bad) E Q
    rw [if_pos h1]; exact h2
end
end DL

set_option maxRecDepth 100000
set_option maxHeartbeats 2000000
/-! DLO: sorted(range(n), key=lambda x: ..). -/
namespace DL
open PySem PySem.Spec PyProof.Rows L2 LamX

section
variable {X : Cx} {pins : List (Addr × Obj)} {σ : L2.St} {H : Hp} {s : Shared}
/-- the lambda is made: its code object is new, or found in the table; what is then tracked, told to the letter -/
theorem lam_make3 {c P : Addr} {params : Arguments} {body : Expr} {scope : Scope} {pos : Pos} {E : Value → Shared → Prop} {Q : Value → Shared → Prop} (I : Inv X pins σ H s) (TB : GxR.TabB X.base X.mg c P) (hcode : X.env.code = .ref c)
    (hT : LamX.TabS H P (X.env.qual ++ "<lambda>")) (hdef : defaultsOf params X.env = ([], [])) (hfree : ∀ y ∈ scope.names, y.2 = .free → ∃ c, X.env.cells.lookup y.1 = some c)
    (h : ∀ (f c' : Addr) (pm ctv : Value) (H1 : Hp) (s' : Shared), Inv X pins σ H1 s' →
      ((H1 = H ∧ H c' = some (LamX.CodeO c' (X.env.qual ++ "<lambda>"))) ∨
       (∃ ps more, H P = some (.tbl ps) ∧ H1 = upd (upd H P (.tbl (ps ++ more))) c' (LamX.CodeO c' (X.env.qual ++ "<lambda>")) ∧ H c' = none ∧ TriplesOk (ps ++ more).toList ∧
          ∀ (p' : Pos) (cv : Value), codeAmong p' (ps ++ more).toList = some cv → codeAmong p' ps.toList = some cv ∨ cv = .ref c')) →
      s'.heap.get? f = some (PySem.W.kla_obj "<lambda>" (X.env.qual ++ "<lambda>") params body scope (cloFrom X.env.cells scope.names []) pm c' ctv) → H1 f = none → f ∉ frs X.stack → H1 c' = some (LamX.CodeO c' (X.env.qual ++ "<lambda>")) →
      s.heap.objs.size ≤ f → Q (.ref f) s') :
    wpAny (model X.prog X.w) X.A (eval (.Lambda params body scope pos) X.env) Q E s := by
  obtain ⟨ps, hP, ht, ha⟩ := hT
  refine PySem.W.kla_eval hdef ?_
  have bP : s.heap.BuiltinsAt X.mg P := TB.bm.keeps I.bk
  have hP' : s.heap.get? P = some { cls := .none, data := .fields ps } := I.hok P _ hP
  have nofr : ∀ f, s.heap.objs.size ≤ f → f ∉ frs X.stack := fun f hf z => by
    rcases List.mem_cons.mp (I.stkSub _ z) with e | e
    · have h1 := I.lt
      rw [← e] at h1
      exact Nat.lt_irrefl _ (Nat.lt_of_lt_of_le h1 hf)
    · exact I.nofs hf e
  cases hc : codeAmong pos ps.toList with
  | none =>
    refine PySem.W.kla_makeFunction (mg := X.mg) (c := c) (P := P) (ps := ps) (closure_ok hfree) I.ok.glob (I.mod.glob.keeps I.bk) hcode (TB.code.keeps I.bk) hP' ht hc TB.gP bP fun c' ctv h' tk hx hge hlt hrec htb => ?_
    obtain ⟨c2, oc, vs, t, e2, hoc, hd, hv⟩ := hrec
    cases e2
    have hsz : s.heap.objs.size ≤ h'.objs.size := Nat.le_trans hge (Nat.le_of_lt hlt)
    have nC : H c' = none := I.hok.fresh hge
    have I1 := LamX.inv_table (t' := tk) (more := #[rawInt pos.line, rawInt pos.col, .ref c']) (h' := h'.push (PySem.W.kla_obj "<lambda>" (X.env.qual ++ "<lambda>") params body scope (cloFrom X.env.cells scope.names []) ((X.mg "__name__").getD .none) c' ctv)) I hP
      (fun b o hb e => Heap.get?_push_of_some _ (hx b o hb e)) (Heap.get?_push_of_some _ htb) hge ⟨oc, vs, t, Heap.get?_push_of_some _ hoc, hd, hv⟩
    have eL : (ps ++ #[rawInt pos.line, rawInt pos.col, .ref c']).toList = ps.toList ++ [rawInt pos.line, rawInt pos.col, .ref c'] := by simp
    refine h h'.objs.size c' ((X.mg "__name__").getD .none) ctv _ _ I1 (.inr ⟨ps, _, hP, rfl, nC, by rw [eL]; exact PySem.TriplesOk_snoc _ _ _ _ ht, fun p' cv hcv => ?_⟩) (Heap.get?_push_size _ rfl) ?_ (nofr _ hsz) upd_same hsz
    · rw [eL] at hcv
      exact LamX.among_app _ ht hcv
    · have n1 : h'.objs.size ≠ c' := Nat.ne_of_gt hlt
      have n2 : h'.objs.size ≠ P := Nat.ne_of_gt (Nat.lt_of_lt_of_le (Heap.lt_size hP') hsz)
      rw [upd_ne n1, upd_ne n2]
      exact I.hok.fresh hsz
  | some cv =>
    obtain ⟨c', e, hco⟩ := ha pos cv hc
    subst e
    refine PySem.W.kla_makeFunctionHit (mg := X.mg) (c := c) (P := P) (ps := ps) (closure_ok hfree) I.ok.glob (I.mod.glob.keeps I.bk) hcode (TB.code.keeps I.bk) hP' ht hc bP fun ctv h' tk hx hsz => ?_
    have I1 : Inv X pins σ H { s with heap := h'.push (PySem.W.kla_obj "<lambda>" (X.env.qual ++ "<lambda>") params body scope (cloFrom X.env.cells scope.names []) ((X.mg "__name__").getD .none) c' ctv), toks := tk } := I.kept fun b o e => Heap.get?_push_of_some _ (hx b o e)
    exact h h'.objs.size c' ((X.mg "__name__").getD .none) ctv H _ I1 (.inl ⟨rfl, hco⟩) (Heap.get?_push_size _ rfl) (I.hok.fresh hsz) (nofr _ hsz) hco hsz
end
/-! ### a lambda of one name -/
structure LamP (sc scope : Scope) (x : Str) : Prop where
  kind : scope.kind = .function
  co : scope.isCoroutine = false
  gen : scope.isGenerator = false
  own : ∀ y ∈ scope.names, (y.2 = .local → y.1 = x) ∧ y.2 ≠ .cell
  loc : scope.names.lookup x = some .local
  free : ∀ y ∈ scope.names, y.2 = .free → sc.names.lookup y.1 = some .cell ∨ sc.names.lookup y.1 = some .free
def lamPB (sc scope : Scope) (x : Str) : Bool :=
  decide (scope.kind = .function) && !scope.isCoroutine && !scope.isGenerator && decide (scope.names.lookup x = some .local) && scope.names.all fun y => (!decide (y.2 = .local) || decide (y.1 = x)) && !decide (y.2 = .cell) && (!decide (y.2 = .free) || decide (sc.names.lookup y.1 = some .cell) || decide (sc.names.lookup y.1 = some .free))
theorem lamP_by {sc scope : Scope} {x : Str} (h : lamPB sc scope x = true) : LamP sc scope x := by
  unfold lamPB at h
  simp only [Bool.and_eq_true, Bool.or_eq_true, Bool.not_eq_true', decide_eq_true_eq, decide_eq_false_iff_not, List.all_eq_true] at h
  obtain ⟨⟨⟨⟨h1, h2⟩, h3⟩, h5⟩, h4⟩ := h
  refine ⟨h1, h2, h3, fun y hy => ⟨fun e => ?_, (h4 y hy).1.2⟩, h5, fun y hy e => ?_⟩
  · rcases (h4 y hy).1.1 with z | z
    · exact absurd e z
    · exact z
  · rcases (h4 y hy).2 with (z | z) | z
    · exact absurd e z
    · exact .inl z
    · exact .inr z
theorem LamP.has {X : Cx} {scope : Scope} {x : Str} (L : LamP X.env.scope scope x) (ok : X.Ok) : ∀ y ∈ scope.names, y.2 = .free → ∃ c, X.env.cells.lookup y.1 = some c := fun y hy e => by
  rcases L.free y hy e with k | k
  · exact ok.has _ (.inl k)
  · exact ok.has _ (.inr k)
section
variable {X : Cx} {pins : List (Addr × Obj)} {σ : L2.St} {H : Hp} {s : Shared}
theorem lam_startP {A : Around} {outer : List Env} {E : XK} {scope : Scope} {f c' : Addr} {h₁ : Heap} {tk : Nat} {x : Str} {ip : Nat} {v0 : V} {u0 : Value} (I : Inv X pins σ H s) (L : LamP X.env.scope scope x) (e0 : Env0 X.prog X.w X.K X.mg X.base A outer s H) (hd : A.handled = none)
    (nd : X.N.Nodup) (hN : X.N[ip]? = some x) (r0 : RelV v0 u0) (hns : h₁.Ns s.heap.objs.size fun y => ([(x, u0)] : List (Str × Value)).reverse.lookup y) (kp : ∀ b o, s.heap.get? b = some o → h₁.get? b = some o) :
    Inv (LamX.lamCx X A outer s H E scope f c') [] (σ.set ip (some v0)) H { s with heap := h₁, toks := tk } := by
  have hfree := L.has I.ok
  have cm : ∀ {y c}, (cloFrom X.env.cells scope.names []).lookup y = some c → X.env.cells.lookup y = some c := fun {y c} e => by
    rcases cloFrom_mem (PySem.mem_of_lookup e) with hm | ⟨h1, h2⟩
    · cases hm
    · obtain ⟨c1, hc⟩ := hfree _ h1 rfl
      have hc : X.env.cells.lookup y = some c1 := hc
      have e2 : c = c1 := by
        rw [h2, hc] <;> rfl
      rw [e2]
      exact hc
  have look : ∀ {y}, scope.names.lookup y = some .free → ∃ c, (cloFrom X.env.cells scope.names []).lookup y = some c := fun {y} hl => by
    have hy : (y, NameKind.free) ∈ scope.names := PySem.mem_of_lookup hl
    exact mem_lookup (cloFrom_has (cells := X.env.cells) (acc := []) hy)
  have cellK : ∀ {c : Addr} {v : Option Value}, H c = none → s.heap.IsCell c v → h₁.IsCell c v := fun {c v} n ⟨o, ho, hd⟩ => ⟨_, kp _ _ ho, hd⟩
  have noA : ∀ b : Addr, b ∉ (LamX.lamCx X A outer s H E scope f c').ex := fun b z => absurd (show b ∈ ([] : List Addr) from z) (by simp)
  refine ⟨⟨e0.mod, L.kind, rfl, rfl, Nat.le_refl _, fun y z c e1 e2 => I.ok.inj y z c (cm e1) (cm e2), fun y hy => ?_, fun y c z _ => ?_, fun _ => hd, Around.frames_deeper e0.frames, .inr ⟨rfl, rfl⟩, fun b z => absurd z (noA b), e0.bs, e0.bsz, fun b _ _ => noA b,
      fun b z => absurd z (noA b), e0.funs, e0.frf⟩,
    rfl, e0.bare, Un.kept kp, ⟨_, hns, fun i y v e1 e2 e3 => ?_⟩, fun y c e => ?_, e0.hok.fresh (Nat.le_refl _), fun y c e => ?_, fun q hq => absurd (show q ∈ ([] : List (Addr × Obj)) ++ [] from hq) (by simp), e0.hok.kept kp, by rw [List.length_set]; exact I.len⟩
  · have hy : scope.names.lookup y = some .cell ∨ scope.names.lookup y = some .free := hy
    rcases hy with hy | hy
    · exact absurd rfl (L.own _ (PySem.mem_of_lookup hy)).2
    · exact look hy
  · have z : false = true := z
    cases z
  · have e1 : X.N[i]? = some y := e1
    have e3 : Vis scope y := e3
    rcases e3 with k | k | k
    · have hyx : y = x := (L.own _ (PySem.mem_of_lookup k)).1 rfl
      subst hyx
      have hi : i = ip := nodup_ix nd e1 hN
      subst hi
      rcases get_set e2 with ⟨_, e, _⟩ | ⟨z, _⟩
      · cases e
        exact ⟨u0, r0, .inl ⟨k, by simp⟩⟩
      · exact absurd rfl z
    · exact absurd rfl (L.own _ (PySem.mem_of_lookup k)).2
    · have hi : ip ≠ i := fun z => by
        subst z
        rw [hN] at e1; cases e1
        have := L.loc
        rw [k] at this; cases this
      rcases get_set e2 with ⟨z, _⟩ | ⟨_, e2⟩
      · exact absurd z hi
      obtain ⟨m, hn, hl⟩ := I.loc
      have hvis : Vis X.env.scope y := (L.free _ (PySem.mem_of_lookup k) rfl).elim (fun k => .inr (.inl k)) (fun k => .inr (.inr k))
      obtain ⟨w', r, q⟩ := hl i y v e1 e2 hvis
      obtain ⟨c2, h2⟩ := look k
      refine ⟨w', r, .inr ⟨.inr k, c2, h2, ?_⟩⟩
      have c1 := cm h2
      rcases q with ⟨k', _⟩ | ⟨_, c3, e', z⟩
      · have k' : X.env.scope.names.lookup y = some .local := k'
        rcases L.free _ (PySem.mem_of_lookup k) rfl with k2 | k2 <;> rw [show X.env.scope.names.lookup y = _ from k2] at k' <;> cases k'
      · rw [c1] at e'
        cases e'
        exact cellK (I.freeC y _ c1) z
  · obtain ⟨w', z⟩ := I.cell y c (cm e)
    exact ⟨w', cellK (I.freeC y c (cm e)) z⟩
  · exact I.freeC y c (cm e)
/-- the lambda called with one argument -/
theorem lam_call1 {A : Around} {f c' : Addr} {pm ctv : Value} {params : Arguments} {body : Expr} {scope : Scope} {k ip : Nat} {x : Str} {v0 : V} {u0 : Value} {t : TE} {Q : VK} {E' : Value → Shared → Prop}
    (I : Inv X pins σ H s) (L : LamP X.env.scope scope x) (hf : s.heap.get? f = some (PySem.W.kla_obj "<lambda>" (X.env.qual ++ "<lambda>") params body scope (cloFrom X.env.cells scope.names []) pm c' ctv))
    (hc : H c' = some (LamX.CodeO c' (X.env.qual ++ "<lambda>"))) (nd : X.N.Nodup) (hN : X.N[ip]? = some x) (r0 : RelV v0 u0)
    (hbind : bindArgs (PySem.W.kla_fn "<lambda>" (X.env.qual ++ "<lambda>") params body scope (cloFrom X.env.cells scope.names []) pm (.ref c') ctv) ⟨[u0], []⟩ = pure [(x, u0)])
    (e0 : Env0 X.prog X.w X.K X.mg X.base A X.stack s H) (hr : Room (k + 1) A)
    (hbody : PE (LamX.lamCx X A X.stack s H (fun _ _ _ => False) scope f c') body t) (ht : t (σ.set ip (some v0)) H Q) :
    wpAny (model X.prog X.w) A (call (.ref f) [u0]) (EP X pins σ Q) E' s := by
  obtain ⟨⟨oc, vs, tt, hoc, hdc, hvc⟩, _, _⟩ := I.hok c' _ hc
  have rc : codeAny (model X.prog X.w) A (.call (.ref f) ⟨[u0], []⟩) (CR (L2.CX X.prog X.w) X.stack X.prog X.w H s Q (fun _ _ _ => False)) s := by
    refine PySem.W.kla_callFunE hr.depth hf rfl L.co L.gen rfl ⟨c', oc, vs, tt, rfl, hoc, hdc, hvc⟩ ?_
    rw [hbind]
    refine wpAny_pure (wpAny_newFunctionEnv (fun y hy => (L.own y hy).2) (fun y hy => ?_) (fun h₁ hns hsb => ⟨I.nolimit.fresh _ hsb, ?_⟩) L.kind)
    · rw [List.mem_singleton] at hy
      subst hy
      exact L.loc
    · show codeAny _ _ (.expr body (LamX.lamEnv X scope s.heap.objs.size f c')) _ _
      have kp : ∀ b o, s.heap.get? b = some o → h₁.get? b = some o := fun b o e => hsb.extBut b o (Nat.ne_of_lt (Heap.lt_size e)) (Heap.get?_push_of_some _ e)
      have J : Inv (LamX.lamCx X A X.stack s H (fun _ _ _ => False) scope f c') [] (σ.set ip (some v0)) H { s with heap := h₁, toks := s.toks + ([(x, u0)] : List (Str × Value)).length } :=
        lam_startP I L e0 hr.hd nd hN r0 hns kp
      refine PySem.W.kla_codeExpr (wpAny_mono (hbody.run [] _ _ H Q J ht) (fun v s' hq => ?_) fun e s' hq => hq)
      obtain ⟨w', H', J', rv, q⟩ := hq
      exact ⟨w', H', J'.os, J'.bare, J'.base, J'.hok, rv, q⟩
  refine wpAny_call (codeAny_mono rc fun r s' hq => ?_)
  cases r with
  | error e => obtain ⟨_, _, _, _, _, _, _, _, _, _, _, _, z⟩ := hq; exact z.elim
  | ok fl =>
    cases fl with
    | ret u => exact I.after hq
    | next => exact False.elim hq
    | brk => exact False.elim hq
    | cont => exact False.elim hq
end
/-! ### the keys -/
def keysGo (f : SE Dv) (ip : Nat) (ρ : List Sv) : List Int → Pn → Res (List PyData)
  | [], π => .ok [] π
  | i :: is, π => match f (ρ.set ip (.val (.val (.int i)))) π with
    | .ok (.val k) π1 => (match keysGo f ip ρ is π1 with
      | .ok ks π2 => .ok (k :: ks) π2
      | _ => .bad)
    | _ => .bad
def intD : PyData → Option Int
  | .int i => some i
  | _ => none
def intsD : List PyData → Option (List Int)
  | [] => some []
  | d :: ds => match intD d, intsD ds with
    | some i, some is => some (i :: is)
    | _, _ => none
def rowD : PyData → Option (List Int)
  | .list ds => intsD ds
  | _ => none
def rowsD : List PyData → Option (List (List Int))
  | [] => some []
  | d :: ds => match rowD d, rowsD ds with
    | some r, some rs => some (r :: rs)
    | _, _ => none
theorem intsD_eq : ∀ {ds : List PyData} {is : List Int}, intsD ds = some is → ds = is.map PyData.int
  | [], is, h => by cases h; rfl
  | d :: ds, is, h => by
    unfold intsD at h
    split at h
    · rename_i i js e1 e2
      cases h
      have := intsD_eq e2
      subst this
      cases d <;> first | (cases e1; rfl) | cases e1
    · cases h
theorem rowD_eq {d : PyData} {r : List Int} (h : rowD d = some r) : d = .list (r.map PyData.int) := by
  cases d with
  | list ds => have h : intsD ds = some r := h; rw [intsD_eq h]
  | none => cases h
  | bool _ => cases h
  | int _ => cases h
  | str _ => cases h
  | tuple _ => cases h
  | _ => cases h
theorem rowsD_eq : ∀ {ds : List PyData} {rs : List (List Int)}, rowsD ds = some rs → ds = rs.map fun r => PyData.list (r.map PyData.int)
  | [], rs, h => by cases h; rfl
  | d :: ds, rs, h => by
    unfold rowsD at h
    split at h
    · rename_i r qs e1 e2
      cases h
      rw [rowsD_eq e2, rowD_eq e1]; rfl
    · cases h
/-- the ints below, by their rows -/
def sortRows (rows : List (List Int)) : List Int := (((List.range rows.length).zip rows).mergeSort fun p q => decide (p.2 ≤ q.2)).map fun p => (p.1 : Int)
def belowI (n : Int) : List Int := (List.range n.toNat).map fun (i : Nat) => (i : Int)
theorem rows_alike (rows : List (List Int)) : PySem.W.AllAlike (rows.map fun r => PyData.list (r.map PyData.int)) := by
  intro d hd e he
  obtain ⟨r, _, rfl⟩ := List.mem_map.mp hd
  obtain ⟨q, _, rfl⟩ := List.mem_map.mp he
  exact PySem.W.alike_ints r q
theorem rows_sortable (rows : List (List Int)) : PySem.W.Sortable (rows.map fun r => PyData.list (r.map PyData.int)) := .inr fun d hd => by
  obtain ⟨r, _, rfl⟩ := List.mem_map.mp hd
  exact ⟨(fun z => by cases z), (fun xs z => by cases z)⟩
theorem rows_depth (rows : List (List Int)) : ∀ d, d ∈ (rows.map fun r => PyData.list (r.map PyData.int)) → d.depth ≤ 1 := fun d hd => by
  obtain ⟨r, _, rfl⟩ := List.mem_map.mp hd
  show PyData.depthAll (r.map PyData.int) + 1 ≤ 1
  rw [PySem.W.depth_ints]; exact Nat.le_refl 1
theorem pen_ne {W : Wd} {H : Hp} {π : Pn} {a : Addr} {o : HO} (pn : PenOk W H π) (e : H a = some o) (n : ∀ xs, o ≠ .lst xs) : W.pa ≠ some a := fun z => by
  cases π with
  | none => have q : W.pa = none := pn.pen; rw [q] at z; cases z
  | some p =>
    obtain ⟨b, cb, k1, k2, k3, _⟩ := pn.pen
    rw [k1] at z; cases z
    rw [k3] at e
    exact n _ (Option.some.inj e).symm
theorem codeO_nl {c : Addr} {q : Str} (xs : List V) : LamX.CodeO c q ≠ .lst xs := fun z => by unfold LamX.CodeO at z; cases z
theorem codeO_nt {c : Addr} {q : Str} : NotTab (LamX.CodeO c q) := fun ps z => by unfold LamX.CodeO at z; cases z
/-- the world behind the making of a lambda -/
theorem lam_world {W : Wd} {H : Hp} {π : Pn} {P c' : Addr} {q : Str} {ps more : Array Value} (sm : Same W.F H) (pn : PenOk W H π) (hP : P ∈ W.tb.l) (hQ : W.tb.q P = some q) (h1 : H P = some (.tbl ps)) (hc : H c' = none) (ht : TriplesOk (ps ++ more).toList)
    (ha : ∀ (p' : Pos) (cv : Value), codeAmong p' (ps ++ more).toList = some cv → codeAmong p' ps.toList = some cv ∨ cv = .ref c') :
    Step W H ⟨upd W.F c' (LamX.CodeO c' q), W.pa, W.tb⟩ (upd (upd H P (.tbl (ps ++ more))) c' (LamX.CodeO c' q)) ∧ PenOk ⟨upd W.F c' (LamX.CodeO c' q), W.pa, W.tb⟩ (upd (upd H P (.tbl (ps ++ more))) c' (LamX.CodeO c' q)) π ∧
      Same (upd W.F c' (LamX.CodeO c' q)) (upd (upd H P (.tbl (ps ++ more))) c' (LamX.CodeO c' q)) := by
  have nPc : P ≠ c' := ne_of_none h1 hc
  have fc : W.F c' = none := sm.free hc
  have fP : W.F P = none := (pn.tab P hP).1
  have old : ∀ a o, H a = some o → a ≠ P → upd (upd H P (.tbl (ps ++ more))) c' (LamX.CodeO c' q) a = some o := fun a o e n => by
    rw [upd_ne (ne_of_none e hc), upd_ne n]; exact e
  have ss : Same W.F (upd W.F c' (LamX.CodeO c' q)) := fun a u e => by rw [upd_ne (ne_of_none e fc)]; exact e
  refine ⟨⟨ss, fun a o e => ?_, fun a o e _ nt => old a o e fun z => ?_, fun a e => ?_, fun _ e => e, fun _ e => .inl e, rfl⟩, ⟨?_, fun P' hP' => ⟨?_, ?_, ?_⟩⟩, fun a o e => ?_⟩
  · have e : upd W.F c' (LamX.CodeO c' q) a = some o := e
    by_cases h : a = c'
    · subst h; exact .inr hc
    · rw [upd_ne h] at e; exact .inl e
  · rw [z, h1] at e; exact nt _ (Option.some.inj e).symm
  · by_cases h : a = c'
    · subst h; exact hc
    · rw [upd_ne h] at e
      by_cases h2 : a = P
      · subst h2; rw [upd_same] at e; cases e
      · rw [upd_ne h2] at e; exact e
  · cases π with
    | none => exact pn.pen
    | some pe =>
      obtain ⟨a, ca, k1, k2, k3, k4, k5⟩ := pn.pen
      have n1 : a ≠ c' := ne_of_none k3 hc
      have n2 : a ≠ P := fun z => by rw [z, h1] at k3; cases k3
      exact ⟨a, ca, k1, by show upd W.F c' _ a = none; rw [upd_ne n1]; exact k2, old _ _ k3 n2, ss _ _ k4, k5⟩
  · have n : P' ≠ c' := tab_ne' (pn.tab P' hP').2 hc
    show upd W.F c' _ P' = none
    rw [upd_ne n]; exact (pn.tab P' hP').1
  · have n : P' ≠ c' := tab_ne' (pn.tab P' hP').2 hc
    by_cases z : P' = P
    · subst z; exact ⟨_, by rw [upd_ne n, upd_same], ht⟩
    · obtain ⟨ps', e1, e2⟩ := (pn.tab P' hP').2.1
      exact ⟨ps', by rw [upd_ne n, upd_ne z]; exact e1, e2⟩
  · have n : P' ≠ c' := tab_ne' (pn.tab P' hP').2 hc
    intro u hu xs hx pos cv hcv
    rw [upd_ne n] at hx
    by_cases z : P' = P
    · subst z
      rw [upd_same] at hx; cases hx
      have hu : W.tb.q P' = some u := hu
      rw [hQ] at hu; cases hu
      rcases ha pos cv hcv with y | y
      · obtain ⟨c, e1, e2⟩ := (pn.tab P' hP').2.2 q hQ ps h1 pos cv y
        exact ⟨c, e1, ss _ _ e2⟩
      · exact ⟨c', y, upd_same⟩
    · rw [upd_ne z] at hx
      obtain ⟨c, e1, e2⟩ := (pn.tab P' hP').2.2 u hu xs hx pos cv hcv
      exact ⟨c, e1, ss _ _ e2⟩
  · by_cases h : a = c'
    · subst h; rw [upd_same] at e ⊢; exact e
    · rw [upd_ne h] at e
      have := sm a o e
      exact old a o this fun z => by rw [z, fP] at e; cases e
section
variable {X : Cx} {tb : Tb} {pins : List (Addr × Obj)} {σ : L2.St} {H : Hp} {s : Shared}
theorem keysGo_cons {f : SE Dv} {ip : Nat} {ρ : List Sv} {i : Int} {is : List Int} {π π2 : Pn} {ks : List PyData} (h : keysGo f ip ρ (i :: is) π = .ok ks π2) :
    ∃ k π1 ks', f (ρ.set ip (.val (.val (.int i)))) π = .ok (.val k) π1 ∧ keysGo f ip ρ is π1 = .ok ks' π2 ∧ ks = k :: ks' := by
  unfold keysGo at h
  split at h
  · rename_i k π1 e1
    split at h
    · rename_i ks' π3 e2
      cases h
      exact ⟨k, π1, ks', e1, e2, rfl⟩
    · cases h
  · cases h
theorem keysGo_len {f : SE Dv} {ip : Nat} {ρ : List Sv} : ∀ {is : List Int} {π π2 : Pn} {ks : List PyData}, keysGo f ip ρ is π = .ok ks π2 → ks.length = is.length
  | [], π, π2, ks, h => by cases h; rfl
  | i :: is, π, π2, ks, h => by
    obtain ⟨k, π1, ks', _, e2, rfl⟩ := keysGo_cons h
    rw [List.length_cons, List.length_cons, keysGo_len e2]
/-- a new object, untracked -/
theorem pin_new (I : Inv X pins σ H s) {a : Addr} {o : Obj} {h' : Heap} {t' : Nat} (k : ∀ b o, s.heap.get? b = some o → h'.get? b = some o) (ha : s.heap.objs.size ≤ a) (e : h'.get? a = some o) (nc : ∀ v, o.data ≠ .cell v) : Inv X (pins ++ [(a, o)]) σ H { s with heap := h', toks := t' } := by
  have I1 : Inv X pins σ H { s with heap := h', toks := t' } := I.kept k
  refine I1.pins_of fun p hp => ?_
  rcases List.mem_append.mp hp with hp | hp
  · exact I1.pin p (List.mem_append_right _ hp)
  · rw [List.mem_singleton] at hp
    subst hp
    exact ⟨e, I.hok.fresh ha, fun z => by
      have := I.lt
      have z : a = X.env.locals := z
      rw [← z] at this
      exact absurd (Nat.lt_of_lt_of_le this ha) (Nat.lt_irrefl _), I.nofs ha, nc⟩
theorem pin_set (I : Inv X pins σ H s) {a : Addr} {o o' : Obj} {h' : Heap} {t' : Nat} (I2 : Inv X (pins ++ [(a, o)]) σ H s) (hs : X.s_0.heap.objs.size ≤ a) (np : ∀ p ∈ X.pn ++ pins, p.1 ≠ a) (k : ∀ b u, b ≠ a → s.heap.get? b = some u → h'.get? b = some u) (e : h'.get? a = some o') (nc : ∀ v, o'.data ≠ .cell v) :
    Inv X (pins ++ [(a, o')]) σ H { s with heap := h', toks := t' } := by
  obtain ⟨p1, p2, p3, p4, p5⟩ := I2.pin (a, o) (List.mem_append_right _ (List.mem_append_right _ (List.mem_singleton.mpr rfl)))
  have I3 : Inv X pins σ H { s with heap := h', toks := t' } := I.turned k p2 p3 (.inr hs) (fun x c e1 z => by
    obtain ⟨v, oc, e2, e3⟩ := I.cell x c e1
    subst z
    have p1 : s.heap.get? c = some o := p1
    rw [p1] at e2; cases e2
    exact p5 v e3) np
  refine I3.pins_of fun p hp => ?_
  rcases List.mem_append.mp hp with hp | hp
  · exact I3.pin p (List.mem_append_right _ hp)
  · rw [List.mem_singleton] at hp
    subst hp
    exact ⟨e, p2, p3, p4, nc⟩
theorem pins_sub {pins' : List (Addr × Obj)} (I : Inv X pins σ H s) (h : ∀ p ∈ pins', p ∈ pins) : Inv X pins' σ H s := I.pins_of fun p hp => I.pin p (List.mem_append_right _ (h p hp))
theorem old_ne (I : Inv X pins σ H s) {a : Addr} (ha : s.heap.objs.size ≤ a) : ∀ p ∈ X.pn ++ pins, p.1 ≠ a := fun p hp z => by
  have := Heap.lt_size (I.pin p hp).1
  rw [z] at this
  exact absurd (Nat.lt_of_lt_of_le this ha) (Nat.lt_irrefl _)
/-- the keys are made, one after another -/
theorem keys_run {A : Around} {f c' kS a : Addr} {pm ctv : Value} {params : Arguments} {body : Expr} {scope : Scope} {k ip e1 : Nat} {x : Str} {F : SE Dv} {fo : Obj} {W : Wd} {ρ : List Sv} {π π2 : Pn} {ns : List Int} {ks : List PyData} {vs : List Value} {b : Bool} {R : PySem.Fin → Shared → Prop} {E' : Value → Shared → Prop}
    (hfo : fo = PySem.W.kla_obj "<lambda>" (X.env.qual ++ "<lambda>") params body scope (cloFrom X.env.cells scope.names []) pm c' ctv) (hfp : (f, fo) ∈ pins)
    (L : LamP X.env.scope scope x) (nd : X.N.Nodup) (hN : X.N[ip]? = some x)
    (hbind : ∀ (q : Str) (cl : List (Str × Addr)) (pm cv ctv u : Value), bindArgs (PySem.W.kla_fn "<lambda>" q params body scope cl pm cv ctv) ⟨[u], []⟩ = pure [(x, u)])
    (hA : ∀ (s : Shared) (H : Hp), Inv X pins σ H s → Env0 X.prog X.w X.K X.mg X.base A X.stack s H) (hr : Room (k + 1) A)
    (hbody : ∀ (s : Shared) (H : Hp), PE (LamX.lamCx X A X.stack s H (fun _ _ _ => False) scope f c') body (tE (Cx.md X tb) (fun _ _ _ _ => False) F))
    (I0 : Inv X pins σ H s) (hka : s.heap.objs.size ≤ kS) (haa : s.heap.objs.size ≤ a) (nka : kS ≠ a)
    {s1 : Shared} (I : Inv X ((pins ++ [(a, seqObj "list" #[] e1)]) ++ [(kS, seqObj "list" #[] 0)]) σ H s1) (st : StE (Cx.md X tb) W H ρ π σ) (hc : H c' = some (LamX.CodeO c' (X.env.qual ++ "<lambda>")))
    (hk : keysGo F ip ρ ns π = .ok ks π2) (hv : Vals (ns.map V.int) vs) (hZ : vs.length ≤ sizeLine)
    (h : ∀ (s' : Shared) (H' : Hp) (W' : Wd) (kA : Array Value) (e : Nat) (kvs : List V), Inv X ((pins ++ [(a, seqObj "list" #[] e1)]) ++ [(kS, seqObj "list" kA e)]) σ H' s' → Step W H W' H' → PenOk W' H' π2 → Same W'.F H' → Vals kvs kA.toList → DqAll W'.F kvs ks →
      wpAny (model X.prog X.w) A (ksk_end a b vs.toArray e1 (.ref kS) kA) R E' s') :
    wpAny (model X.prog X.w) A (ksk_rest a (.ref f) b vs.toArray e1 (.ref kS)) R E' s1 := by
  unfold ksk_rest
  refine wpAny_bind (wpAny_rule ?_)
  first
    | rw [List.forIn_toArray]
    | (rw [← Array.forIn_toList]; simp only [List.toList_toArray])
    | rw [← Array.forIn_toList]
  refine wpAny_bind (ksk_fold (fun i s' => ∃ W' H' π' kA e kvs, Inv X ((pins ++ [(a, seqObj "list" #[] e1)]) ++ [(kS, seqObj "list" kA e)]) σ H' s' ∧ Step W H W' H' ∧ PenOk W' H' π' ∧ Same W'.F H' ∧ Vals kvs kA.toList ∧ DqAll W'.F kvs (ks.take i) ∧
      keysGo F ip ρ (ns.drop i) π' = .ok (ks.drop i) π2) vs 0 s1
    ⟨W, H, π, #[], 0, [], I, Step.refl _ _, st.pen, st.same, .nil, by rw [List.take_zero]; exact .nil, by rw [List.drop_zero, List.drop_zero]; exact hk⟩ ?step ?done)
  case step =>
    rintro j u s' hx ⟨W', H', π', kA, e, kvs, I', t', pn', sm', rv', rd', hk'⟩
    simp only [Nat.zero_add] at rd' hk' ⊢
    obtain ⟨v0, hv0, r0⟩ : ∃ v0, (ns.map V.int)[j]? = some v0 ∧ RelV v0 u := by
      have hl := hv.length
      have hj : j < vs.length := (List.getElem?_eq_some_iff.mp hx).1
      have q : (ns.map V.int)[j]? = some ((ns.map V.int)[j]'(by omega)) := List.getElem?_eq_getElem (by omega)
      obtain ⟨u', e1, e2⟩ := hv.get q
      rw [hx] at e1; cases e1
      exact ⟨_, q, e2⟩
    obtain ⟨i0, hi0, rfl⟩ : ∃ i0, ns[j]? = some i0 ∧ v0 = V.int i0 := by
      rw [List.getElem?_map] at hv0
      cases q : ns[j]? with
      | none => rw [q] at hv0; cases hv0
      | some i0 => rw [q] at hv0; cases hv0; exact ⟨i0, rfl, rfl⟩
    have hd : ns.drop j = i0 :: ns.drop (j + 1) := Srt.drop_at ns j i0 hi0
    rw [hd] at hk'
    obtain ⟨k1, π1, ks', e2, e3, e4⟩ := keysGo_cons hk'
    have hkj : ks[j]? = some k1 := by
      have := congrArg (fun l => l[0]?) e4
      simpa using this
    have hkd : ks.drop (j + 1) = ks' := by
      have := congrArg List.tail e4
      rw [List.tail_drop] at this
      exact this
    have hkt : ks.take (j + 1) = ks.take j ++ [k1] := by rw [List.take_add_one, hkj]; rfl
    have Ip : Inv X pins σ H' s' := pins_sub I' fun p hp => List.mem_append_left _ (List.mem_append_left _ hp)
    have hf' : s'.heap.get? f = some fo := (Ip.pin (f, fo) (List.mem_append_right _ hfp)).1
    rw [hfo] at hf'
    have hc' : H' c' = some (LamX.CodeO c' (X.env.qual ++ "<lambda>")) := t'.keep _ _ hc (pen_ne st.pen hc codeO_nl) codeO_nt
    have st' : StE (Cx.md X tb) W' H' ρ π' σ := st.step t' pn' sm'
    have turn := lam_call1 (E' := fun _ _ => False) (Q := fun v H2 => ∃ W2, Step W' H' W2 H2 ∧ PenOk W2 H2 π1 ∧ Same W2.F H2 ∧ Dq W2.F v k1) I' L hf' hc' nd hN r0 (hbind _ _ _ _ _ _) (hA s' H' Ip) hr (hbody s' H') (by
      refine ⟨W', _, π', st'.set ip (.val (.int i0)), ?_⟩
      rw [e2]
      intro W2 H2 v t2 pn2 sm2 r2
      cases r2 with
      | val r2 => exact ⟨W2, t2, pn2, sm2, r2⟩)
    refine wpAny_bind (wpAny_attempt (wpAny_mono turn (fun v s2 he => ?_) fun _ _ hF => hF.elim))
    obtain ⟨kv, H2, I2, rkv, W2, t2, pn2, sm2, r2⟩ := he
    try dsimp only
    have nk2 : s2.heap.get? kS = some (seqObj "list" kA e) := (I2.pin (kS, seqObj "list" kA e) (List.mem_append_right _ (List.mem_append_right _ (List.mem_singleton.mpr rfl)))).1
    have hz : kA.size ≤ vs.length := by
      have h1 : kvs.length = kA.size := by rw [← Array.length_toList]; exact rv'.length
      have h2 : kvs.length = (ks.take j).length := rd'.length
      have h3 := keysGo_len hk
      have h4 : (ns.map V.int).length = vs.length := hv.length
      rw [List.length_take] at h2
      rw [List.length_map] at h4
      omega
    have s1u := Heap.SameBut.update s2.heap kS (Obj.mapSeq (·.push v))
    obtain ⟨c2, hc2⟩ : ∃ c2, (s2.heap.update kS (Obj.mapSeq (·.push v))).get? kS = some (seqObj "list" (kA.push v) c2) := ⟨_, get?_update_seq nk2 (·.push v)⟩
    refine wpAny_bind (listUpdate_at nk2 rfl ?_ (Nat.le_trans hz hZ) (Nat.le_trans (Nat.le_of_eq (Array.size_push ..)) (Nat.succ_le_succ (Nat.le_trans hz hZ))))
    have Iq : Inv X (pins ++ [(a, seqObj "list" #[] e1)]) σ H2 s2 := pins_sub I2 fun p hp => List.mem_append_left _ hp
    have hks : X.s_0.heap.objs.size ≤ kS := Nat.le_trans I0.sz hka
    have I3 : Inv X ((pins ++ [(a, seqObj "list" #[] e1)]) ++ [(kS, seqObj "list" (kA.push v) c2)]) σ H2 { s2 with heap := s2.heap.update kS (Obj.mapSeq (·.push v)) } :=
      pin_set (t' := s2.toks) Iq I2 hks (fun p hp => by
        rcases List.mem_append.mp hp with hp | hp
        · exact old_ne I0 hka p (List.mem_append_left _ hp)
        · rcases List.mem_append.mp hp with hp | hp
          · exact old_ne I0 hka p (List.mem_append_right _ hp)
          · rw [List.mem_singleton] at hp; rw [hp]; exact fun z => nka z.symm) (fun b o hb q => (s1u.2 b hb).trans q) hc2 (fun v z => by cases z)
    refine wpAny_pure ⟨rfl, W2, H2, π1, kA.push v, c2, kvs ++ [kv], I3, t'.trans t2, pn2, sm2, ?_, ?_, ?_⟩
    · have ea : (kA.push v).toList = kA.toList ++ [v] := by simp
      rw [ea]; exact Paired.snoc rv' rkv
    · rw [hkt]; exact (rd'.mono t2.sub).append (.cons r2 .nil)
    · rw [hkd]; exact e3
  case done =>
    rintro s' ⟨W', H', π', kA, e, kvs, I', t', pn', sm', rv', rd', hk'⟩
    have hl := keysGo_len hk
    have hl2 := hv.length
    rw [List.length_map] at hl2
    rw [List.take_of_length_le (by omega)] at rd'
    rw [List.drop_eq_nil_of_le (by omega)] at hk'
    obtain rfl : π' = π2 := by
      have q : (Res.ok [] π' : Res (List PyData)) = .ok (ks.drop (0 + vs.length)) π2 := hk'
      injection q
    try dsimp only
    refine wpAny_bind (listItems_at (I'.pin (kS, seqObj "list" kA e) (List.mem_append_right _ (List.mem_append_right _ (List.mem_singleton.mpr rfl)))).1 rfl ?_)
    exact h s' H' W' kA e kvs I' t' pn' sm' rv' rd'
end
/-- the heap without one object -/
def hideAt (h : Heap) (a : Addr) : Heap := h.update a fun o => { o with data := .freed }
theorem hide_self {h : Heap} {a : Addr} : (hideAt h a).get? a = none := by
  cases e : (hideAt h a).get? a with
  | none => rfl
  | some o =>
    obtain ⟨e1, e2⟩ := Heap.get?_some_iff.mp e
    unfold hideAt at e1
    cases h
    simp only [Heap.update, Array.getElem?_modify, if_true] at e1
    rename_i objs l
    cases q : objs[a]? with
    | none => rw [q] at e1; cases e1
    | some o' => rw [q] at e1; cases e1; cases e2
theorem hide_other {h : Heap} {a b : Addr} (n : b ≠ a) : (hideAt h a).get? b = h.get? b := Heap.get?_update_other h _ (Ne.symm n)
theorem zip_rows (rows : List (List Int)) : ((List.range rows.length).zip rows).map (fun p => PyData.list (p.2.map PyData.int)) = rows.map fun r => PyData.list (r.map PyData.int) := by
  have e : ((List.range rows.length).zip rows).map Prod.snd = rows := by
    rw [List.map_snd_zip]; simp
  conv => rhs; rw [← e]
  rw [List.map_map]; rfl
section
variable {X : Cx} {tb : Tb} {pins : List (Addr × Obj)} {σ : L2.St} {H H0 : Hp} {s s0 : Shared}
theorem inv_adopt {a kS : Addr} {oa ok : Obj} {h' : Heap} {tk : Nat} {out : List Value} {ys : List V} {c : Nat} (I0 : Inv X pins σ H0 s0) (hkS : s0.heap.objs.size ≤ kS) (ha : s0.heap.objs.size ≤ a) (I : Inv X ((pins ++ [(a, oa)]) ++ [(kS, ok)]) σ H s)
    (kp : PySem.W.KeepsBut a (hideAt s.heap kS) h') (na : h'.get? a = some (seqObj "list" out.toArray c)) (rv : Vals ys out) (hz : ys.length ≤ sizeLine) : Inv X pins σ (upd H a (.lst ys)) { s with heap := h', toks := tk } := by
  have I1 : Inv X pins σ H s := pins_sub I fun p hp => List.mem_append_left _ (List.mem_append_left _ hp)
  obtain ⟨a1, a2, a3, a4, a5⟩ := I.pin (a, oa) (List.mem_append_right _ (List.mem_append_left _ (List.mem_append_right _ (List.mem_singleton.mpr rfl))))
  obtain ⟨b1, b2, b3, b4, b5⟩ := I.pin (kS, ok) (List.mem_append_right _ (List.mem_append_right _ (List.mem_singleton.mpr rfl)))
  have noc : ∀ (d : Addr) (o : Obj), s.heap.get? d = some o → (∀ v, o.data ≠ .cell v) → ∀ x e, X.env.cells.lookup x = some e → e ≠ d := fun d o q n x e hx z => by
    obtain ⟨v, oc, e2, e3⟩ := I.cell x e hx
    subst z
    rw [q] at e2; cases e2
    exact n v e3
  have keep : ∀ b o, b ≠ a → b ≠ kS → s.heap.get? b = some o → h'.get? b = some o := fun b o h1 h2 e => kp b o h1 (by rw [hide_other h2]; exact e)
  have nin : ∀ {b : Addr}, b ∉ [kS, a] → b ≠ a ∧ b ≠ kS := fun {b} h => ⟨fun z => h (by simp [z]), fun z => h (by simp [z])⟩
  have nk : ∀ b u, H b = some u → b ≠ a ∧ b ≠ kS := fun b u e => ⟨ne_of_none e a2, ne_of_none e b2⟩
  refine I1.step (g' := s.gens) (d' := s.drawn) (ch := [kS, a]) (fun b hb => ?_) (fun b o _ _ hc e _ => keep b o (nin hc).1 (nin hc).2 e) (fun b o _ _ hc e _ => ⟨o.slots, keep b o (nin hc).1 (nin hc).2 e⟩)
    (fun b o hc e n => by rw [upd_ne (nin hc).1]; exact n) (fun b o hc e => ⟨o, keep b o (nin hc).1 (nin hc).2 e⟩) (fun b xs e => by rw [upd_ne (nk b _ e).1]; exact e) (fun b o u e => by rw [upd_ne (nk b _ e).1]; exact e)
    (fun b ps e => ⟨#[], by rw [upd_ne (nk b _ e).1, e]; simp⟩) (fun m hm => ?_) (fun b u e => ?_) I1.bare
  · have hb : b = kS ∨ b = a := by simpa using hb
    rcases hb with rfl | rfl
    · exact ⟨.inr (Nat.le_trans I0.sz hkS), b3, noc _ _ b1 b5, old_ne I0 hkS⟩
    · exact ⟨.inr (Nat.le_trans I0.sz ha), a3, noc _ _ a1 a5, old_ne I0 ha⟩
  · obtain ⟨o, es, ep, ho, r⟩ := hm
    exact ⟨o, es, ep, keep _ o (Ne.symm a3) (Ne.symm b3) ho, r⟩
  · by_cases h : b = a
    · subst h
      rw [upd_same] at e; cases e
      exact ⟨hz, out, c, rv, na⟩
    · rw [upd_ne h] at e
      refine (I1.hok b u e).stay (fun d v hd q => ?_) (fun d q => by rw [upd_ne (nk d _ q).1]; exact q) (fun d xs q => by rw [upd_ne (nk d _ q).1]; exact q)
      have hd2 : d ≠ a ∧ d ≠ kS := by
        rcases hd with z | z
        · rw [z]; exact nk b u e
        · exact nk d _ z
      exact keep d v hd2.1 hd2.2 q
theorem each_of_dp {K : PySem.W.Frag} {W : Wd} (I : Inv X pins σ H s) (sm : Same W.F H) : ∀ {kvs : List V} {us : List Value} {ks : List PyData}, Vals kvs us → DqAll W.F kvs ks → PySem.W.EachIs (fun v k => ∃ as, Reads s.heap v k as) us ks
  | _, _, _, .nil, .nil => .nil
  | _, _, _, .cons rv t, .cons rd t' => .cons (Dp.reads I _ _ _ (rd.dp (K := X.K) sm) rv) (each_of_dp (K := K) I sm t t')
theorem vals_of_each {β : Type} {g : β → Int} : ∀ {out : List Value} {bs : List β}, PySem.W.EachIs (fun v b => ∃ t, v = Value.int (g b) t) out bs → Vals (bs.map fun b => V.int (g b)) out
  | _, _, .nil => .nil
  | _, _, .cons ⟨t, h⟩ r => .cons ⟨t, h⟩ (vals_of_each r)
theorem each_items : ∀ {m i : Nat} {acc : List Value} {rows : List (List Int)}, rows.length = m → acc.length = m → (∀ j v, acc[j]? = some v → ∃ t, v = Value.int (((i + j : Nat) : Int)) t) → PySem.W.EachIs (fun v (b : Nat × List Int) => ∃ t, v = Value.int (b.1 : Int) t) acc ((List.range' i m).zip rows)
  | 0, i, acc, rows, h1, h2, h => by
    obtain rfl := List.eq_nil_of_length_eq_zero h1
    obtain rfl := List.eq_nil_of_length_eq_zero h2
    exact .nil
  | m + 1, i, [], rows, h1, h2, h => by cases h2
  | m + 1, i, _ :: _, [], h1, h2, h => by cases h1
  | m + 1, i, v :: acc, r :: rows, h1, h2, h => by
    rw [List.range'_succ, List.zip_cons_cons]
    refine .cons (h 0 v rfl) (each_items (by simpa using h1) (by simpa using h2) fun j w hw => ?_)
    obtain ⟨t, e⟩ := h (j + 1) w (by simpa using hw)
    exact ⟨t, by rw [e]; congr 1; omega⟩
theorem sort_run {f c' r : Addr} {pm ctv : Value} {params : Arguments} {body : Expr} {scope : Scope} {k ip : Nat} {n : Int} {x : Str} {F : SE Dv} {fo : Obj} {W : Wd} {ρ : List Sv} {π π2 : Pn} {ks : List PyData} {rows : List (List Int)} {t u v : Tok} {Q : VK} {E' : Value → Shared → Prop}
    (hfo : fo = PySem.W.kla_obj "<lambda>" (X.env.qual ++ "<lambda>") params body scope (cloFrom X.env.cells scope.names []) pm c' ctv) (hfp : (f, fo) ∈ pins)
    (L : LamP X.env.scope scope x) (nd : X.N.Nodup) (hN : X.N[ip]? = some x)
    (hbind : ∀ (q : Str) (cl : List (Str × Addr)) (pm cv ctv u : Value), bindArgs (PySem.W.kla_fn "<lambda>" q params body scope cl pm cv ctv) ⟨[u], []⟩ = pure [(x, u)])
    (hr : Room (k + 3) X.A)
    (hbody : ∀ (s : Shared) (H : Hp), PE (LamX.lamCx X X.A.in1.in1 X.stack s H (fun _ _ _ => False) scope f c') body (tE (Cx.md X tb) (fun _ _ _ _ => False) F))
    (I : Inv X pins σ H s) (st : StE (Cx.md X tb) W H ρ π σ) (hc : H c' = some (LamX.CodeO c' (X.env.qual ++ "<lambda>"))) (hrg : IsRange s.heap r 0 n 1 t u v) (hn0 : 0 ≤ n) (hn : n ≤ 16777216)
    (hk : keysGo F ip ρ (belowI n) π = .ok ks π2) (hrows : rowsD ks = some rows)
    (q : ∀ (W' : Wd) (H' : Hp) (p : Addr) (xs : List V), Step W H W' H' → PenOk W' H' π2 → Same W'.F H' → H p = none → W'.F p = none → W'.pa ≠ some p → H' p = some (.lst xs) → xs.length ≤ sizeLine → DqAll W'.F xs ((sortRows rows).map PyData.int) → Q (.ref p) H') :
    wpAny (model X.prog X.w) X.A (call (.builtin "sorted") [.ref r] [(Str.ofString "key", .ref f)]) (EP X pins σ Q) E' s := by
  refine call_function_entry_kw kind_sorted plain_sorted entry_sorted (ksk_s1 _ _) ?_
  unfold Builtin.«sorted»
  refine wpAny_bind (m := checkCount "sorted" 1 1 _) (wpAny_pure ?_)
  have hm : ((n - 0).toNat : Nat) ≤ 2 ^ 24 := by omega
  refine wpAny_bind (collect_range (n := (n - 0).toNat) (A := X.A.in1) hr.in1.hd hrg (small_one (by decide) (by decide) (by omega) (by omega)) (rangeSize_nat 0 n) hm fun h1 tk1 acc hk1 hi => ?_)
  have hal : acc.toList.length = n.toNat := by rw [Array.length_toList, hi.1]; omega
  have hL : acc.toList.length ≤ sizeLine := by rw [hal, sizeLine_eq]; omega
  have I1 : Inv X pins σ H { s with heap := h1, toks := tk1 } := I.kept hk1
  refine wpAny_bind (wpAny_newList ?_ hL)
  have ho : (h1.push (seqObj "list" acc.toList.toArray 0)).get? h1.objs.size = some (seqObj "list" acc.toList.toArray 0) := Heap.get?_push_size _ rfl
  refine wpAny_bind (wpAny_holding (wpAny_call_entry_kw slot_list_sort ⟨_, ho, rfl⟩ entry_list_sort ?body (ksk_l1 _ _)))
  case body =>
    show wpAny (model X.prog X.w) X.A.in1.in1 (Builtin.«list.sort» ⟨[.ref h1.objs.size], [(Str.ofString "key", .ref f)]⟩) _ _ _
    refine wpAny_mono (Q := fun fin s' => fin = .done (.ret .none) ∧ EP X pins σ Q (.ref h1.objs.size) s') ?_ (fun f s' hf => ?_) fun _ _ e => e
    · rw [ksk_t1]
      have hlt : h1.objs.size < (h1.push (seqObj "list" acc.toList.toArray 0)).objs.size := by rw [Heap.size_push]; omega
      obtain ⟨e1, ho1⟩ : ∃ e1, ((h1.push (seqObj "list" acc.toList.toArray 0)).update h1.objs.size (Obj.mapSeq fun _ => (#[] : Array Value))).get? h1.objs.size = some (seqObj "list" #[] e1) := ⟨_, get?_update_seq ho fun _ => #[]⟩
      unfold ksk_tree
      refine wpAny_bind (listItems_at ho rfl ?_)
      refine wpAny_bind (listUpdate_at ho rfl ?_ (by rw [List.size_toArray]; exact hL) (Nat.zero_le _))
      refine wpAny_bind (seqEpoch_at ho1 rfl ?_)
      refine wpAny_bind (wpAny_newTuple ?_ (by show acc.toList.length ≤ _; exact hL))
      refine wpAny_bind (wpAny_newList ?_ (Nat.zero_le _))
      refine wpAny_holding ?_
      have hsz : (((h1.push (seqObj "list" acc.toList.toArray 0)).update h1.objs.size (Obj.mapSeq fun _ => (#[] : Array Value))).push (seqObj "tuple" acc.toList.toArray 0)).objs.size = h1.objs.size + 2 := by
        rw [Heap.size_push, Heap.size_update, Heap.size_push]
      have hne : (((h1.push (seqObj "list" acc.toList.toArray 0)).update h1.objs.size (Obj.mapSeq fun _ => (#[] : Array Value))).push (seqObj "tuple" acc.toList.toArray 0)).objs.size ≠ h1.objs.size := fun z => by rw [hsz] at z; omega
      have up : ∀ b o, h1.get? b = some o → (((h1.push (seqObj "list" acc.toList.toArray 0)).update h1.objs.size (Obj.mapSeq fun _ => (#[] : Array Value))).push (seqObj "tuple" acc.toList.toArray 0)).get? b = some o := fun b o e =>
        Heap.get?_push_of_some _ ((Heap.get?_update_other _ _ (Ne.symm (Nat.ne_of_lt (Heap.lt_size e)))).trans (Heap.get?_push_of_some _ e))
      have I2 := pin_new (t' := tk1) I1 up (Nat.le_refl _) (Heap.get?_push_of_some (seqObj "tuple" acc.toList.toArray 0) ho1) (fun v z => by cases z)
      have I3 := pin_new (t' := tk1) (h' := (((h1.push (seqObj "list" acc.toList.toArray 0)).update h1.objs.size (Obj.mapSeq fun _ => (#[] : Array Value))).push (seqObj "tuple" acc.toList.toArray 0)).push (seqObj "list" #[] 0)) I2 (fun b o e => Heap.get?_push_of_some _ e) (Nat.le_refl _) (Heap.get?_push_size _ rfl) (fun v z => by cases z)
      have hks : h1.objs.size ≤ (((h1.push (seqObj "list" acc.toList.toArray 0)).update h1.objs.size (Obj.mapSeq fun _ => (#[] : Array Value))).push (seqObj "tuple" acc.toList.toArray 0)).objs.size := by rw [hsz]; omega
      have hv : Vals ((belowI n).map V.int) acc.toList := by
        have z := vals_rg hi
        unfold rgV at z
        unfold belowI
        rw [List.map_map]
        have ez : (n - 0).toNat = n.toNat := by omega
        rw [ez] at z
        have em : ((fun i : Nat => V.int (0 + (i : Int))) : Nat → V) = V.int ∘ fun i : Nat => (i : Int) := by funext i; simp
        rw [em] at z
        exact z
      refine keys_run (tb := tb) (W := W) (k := k) hfo hfp L nd hN hbind (fun s H J => J.env0.in1.in1) hr.in1.in1 hbody I1 hks (Nat.le_refl _) hne I3 st hc hk hv hL fun s2 H2 W2 kA e kvs J t2 pn2 sm2 rv rd => ?_
      obtain rfl := rowsD_eq hrows
      have nk := (J.pin (_, seqObj "list" kA e) (List.mem_append_right _ (List.mem_append_right _ (List.mem_singleton.mpr rfl)))).1
      have na := J.pin (h1.objs.size, seqObj "list" #[] e1) (List.mem_append_right _ (List.mem_append_left _ (List.mem_append_right _ (List.mem_singleton.mpr rfl))))
      have hke := each_of_dp (K := X.K) J sm2 rv rd
      have hlen : rows.length = n.toNat := by
        have := keysGo_len hk
        rw [List.length_map] at this
        rw [this]; unfold belowI; simp
      have S : PySem.W.SortsAt X.prog X.w X.A.in1.in1 s2 (PySem.W.dataKind s2.heap (rows.map fun r => PyData.list (r.map PyData.int))) kA.toList := PySem.W.SortsAt.data hke (rows_alike rows) (rows_sortable rows) fun d hd => by
        have h1 := rows_depth rows d hd
        have h2 := hr.un
        show X.A.units + 1 + 1 + d.depth < cLine
        omega
      have hkA : kA.size = acc.toList.length := by
        have := hke.length
        rw [List.length_map, Array.length_toList] at this
        rw [this, hlen, hal]
      refine PySem.W.keyH_end (h₁ := hideAt s2.heap _) (fun b o _ e => by
        by_cases z : b = (((h1.push (seqObj "list" acc.toList.toArray 0)).update h1.objs.size (Obj.mapSeq fun _ => (#[] : Array Value))).push (seqObj "tuple" acc.toList.toArray 0)).objs.size
        · subst z; rw [hide_self] at e; cases e
        · rw [hide_other z] at e; exact e) hide_self nk na.1 hne S hkA hL fun h3 tk3 c3 kp3 na3 => ⟨rfl, ?_⟩
      have ez : (rows.map fun r => PyData.list (r.map PyData.int)) = ((List.range rows.length).zip rows).map fun p => PyData.list (p.2.map PyData.int) := (zip_rows rows).symm
      have ko : PySem.W.KeyedOut false (((List.range rows.length).zip rows).map fun p => PyData.list (p.2.map PyData.int)) acc.toList (PySem.W.sortVals (PySem.W.dataKind s2.heap (rows.map fun r => PyData.list (r.map PyData.int))) false kA.toList acc.toList) := by
        rw [← ez]
        exact ⟨s2.heap, kA.toList, rows_alike rows, rfl, hke⟩
      have eR := PySem.W.keyedOut_each (R := fun v (b : Nat × List Int) => ∃ t, v = Value.int (b.1 : Int) t) _ ko (by
        have := each_items (i := 0) (m := rows.length) (rows := rows) (acc := acc.toList) rfl (by rw [hal, hlen]) (fun j v hj => by
          obtain ⟨t, rfl⟩ := hi.2 j v (by rw [← Array.getElem?_toList]; exact hj)
          exact ⟨t, by congr 1; omega⟩)
        rw [List.range_eq_range']
        exact this)
      rw [PySem.W.dataLe_rows] at eR
      have rvo := vals_of_each (g := fun b : Nat × List Int => (b.1 : Int)) eR
      have hso : ((((List.range rows.length).zip rows).mergeSort fun p q => decide (p.2 ≤ q.2)).map fun b => V.int ((b.1 : Nat) : Int)) = (sortRows rows).map V.int := by
        unfold sortRows; rw [List.map_map]; rfl
      rw [hso] at rvo
      have hlo : ((sortRows rows).map V.int).length ≤ sizeLine := by
        unfold sortRows
        simp only [List.length_map, List.length_mergeSort, List.length_zip, List.length_range, Nat.min_self]
        rw [hlen, sizeLine_eq]; omega
      have I5 := inv_adopt (tk := tk3) I1 hks (Nat.le_refl _) J kp3 na3 rvo hlo
      have nfa : W2.F h1.objs.size = none := sm2.free na.2.1
      obtain ⟨t3, pn3, sm3⟩ := freshOwn (o := .lst ((sortRows rows).map V.int)) sm2 pn2 na.2.1
      exact ⟨.ref h1.objs.size, _, I5, rfl, q W2 _ _ _ (t2.trans t3) pn3 sm3 (I1.hok.fresh (Nat.le_refl _)) nfa (pn2.npa na.2.1) upd_same hlo (DqAll.ints _)⟩
    · obtain ⟨rfl, hq⟩ := hf
      exact ⟨_, rfl, wpAny_pure ⟨_, rfl, hq⟩⟩
end
/-! ### sorted(range(e), key=lambda x: ..) -/
def lSortK (fa : SE Dv) (ip : Nat) (F : SE Dv) : SE (List PyData) := fun ρ π => (fa ρ π).bind fun d π1 => match d with
  | .val (.int n) => if 0 ≤ n ∧ n ≤ 16777216 then (match keysGo F ip ρ (belowI n) π1 with
      | .ok ks π2 => (match rowsD ks with
        | some rows => .ok ((sortRows rows).map PyData.int) π2
        | none => .bad)
      | _ => .bad) else .bad
  | _ => .bad
section
variable {X : Cx} {tb : Tb} {B : WX}
theorem l_sortK (ip : Nat) {k : Nat} {x : Str} {c P : Addr} {ea body : Expr} {params : Arguments} {scope : Scope} {p rp rpos kpos lpos pos : Pos} {fa F : SE Dv}
    (hr : Room (k + 3) X.A) (gd : X.A.guards = some []) (hm : X.mg "sorted" = none) (hmr : X.mg "range" = none) (TB : GxR.TabB X.base X.mg c P) (hP : P ∈ tb.l) (hQ : tb.q P = some (X.env.qual ++ "<lambda>")) (hcode : X.env.code = .ref c)
    (L : LamP X.env.scope scope x) (nd : X.N.Nodup) (ha : PE X ea (tE (Cx.md X tb) B fa))
    (hbody : ∀ (s : Shared) (H : Hp) (f c' : Addr), Room k (X.A.in1.in1.deeper (LamX.lamEnv X scope s.heap.objs.size f c')) → (X.A.in1.in1.deeper (LamX.lamEnv X scope s.heap.objs.size f c')).guards = some [] →
      PE (LamX.lamCx X X.A.in1.in1 X.stack s H (fun _ _ _ => False) scope f c') body (tE (Cx.md X tb) (fun _ _ _ _ => False) F))
    (hN : X.N[ip]? = some x := by rfl) (hg : Gl X "sorted" := by rfl) (hgr : Gl X "range" := by rfl)
    (hbind : ∀ (q : Str) (cl : List (Str × Addr)) (pm cv ctv u : Value), bindArgs (PySem.W.kla_fn "<lambda>" q params body scope cl pm cv ctv) ⟨[u], []⟩ = pure [(x, u)] := by intros; rfl)
    (hdef : defaultsOf params X.env = ([], []) := by rfl)
    (na : starEach [ea] X.env = (false, eval ea X.env) :: starEach [] X.env := by rfl)
    (he : starEach [.Call (.Name "range" rp) [ea] [] rpos] X.env = (false, eval (.Call (.Name "range" rp) [ea] [] rpos) X.env) :: starEach [] X.env := by rfl) :
    PE X (.Call (.Name "sorted" p) [.Call (.Name "range" rp) [ea] [] rpos] [⟨some "key", .Lambda params body scope lpos, kpos⟩] pos) (tL (Cx.md X tb) B (lSortK fa ip F)) := by
  refine ⟨fun pins s σ H Q I ⟨W, ρ, π, st, q⟩ => ?_⟩
  unfold lSortK at q
  refine wpAny_Call_Name_kw (ld_blt I hg hm boot_sorted ?_)
  have hbp : backTo pos (starEach [.Call (.Name "range" rp) [ea] [] rpos] X.env) = (false, eval (.Call (.Name "range" rp) [ea] [] rpos) X.env) :: backTo pos (starEach [] X.env) := by rw [he]; rfl
  refine PyProof.Rows.callWith_kw ?_ hbp (by rw [hbp]; rfl)
  rw [hbp]
  have key : tE (Cx.md X tb) B fa σ H (fun xv H1 => ∃ (W1 : Wd) (π1 π2 : Pn) (n : Int) (ks : List PyData) (rows : List (List Int)), xv = .int n ∧ Step W H W1 H1 ∧ PenOk W1 H1 π1 ∧ Same W1.F H1 ∧ 0 ≤ n ∧ n ≤ 16777216 ∧ keysGo F ip ρ (belowI n) π1 = .ok ks π2 ∧ rowsD ks = some rows ∧
      PostL (Cx.md X tb) B W1 H1 σ Q (.ok ((sortRows rows).map PyData.int) π2)) := by
    refine ⟨W, ρ, π, st, ?_⟩
    cases z : fa ρ π with
    | bad => rw [z] at q; exact q
    | exn n π' => rw [z] at q; exact q
    | ok d π1 =>
      rw [z] at q
      simp only [Res.bind] at q
      intro W1 H1 xv s1 pn1 sm1 r1
      split at q
      · rename_i n
        split at q
        · rename_i hn
          split at q
          · rename_i ks π2 e1
            split at q
            · rename_i rows e2
              refine ⟨W1, π1, π2, n, ks, rows, rv_int (X := X) r1, s1, pn1, sm1, hn.1, hn.2, e1, e2, ?_⟩
              intro W' H' p xs t pn sm n1 n2 n3 e z r
              exact q W' H' p xs (s1.trans t) pn sm (s1.there _ n1) n2 n3 e z r
            · exact q.elim
          · exact q.elim
        · exact q.elim
      · exact q.elim
  refine Calls.spliced_cons ?_
  refine Call_ (ld_blt I hgr hmr boot_range (PyProof.Rows.callWith_type1 (one_arg ha I key (fun v s2 xv H2 I2 r2 q2 => ?_) na) na))
  obtain ⟨W1, π1, π2, n, ks, rows, rfl, t1, pn1, sm1, h0, h1, hk, hrw, q2⟩ := q2
  obtain ⟨tn, rfl⟩ := r2
  refine call_range_1 (Calls.spliced_nil ?_)
  have I3 := pin_new (t' := s2.toks + 1 + 1) (h' := s2.heap.push { cls := .type "range", data := .fields #[.int 0 s2.toks, .int n tn, .int 1 (s2.toks + 1)] }) I2 (fun b o e => Heap.get?_push_of_some _ e) (Nat.le_refl _) (Heap.get?_push_size _ rfl) (fun v z => by cases z)
  have st1 := st.step t1 pn1 sm1
  show wpAny _ _ (evalAll ((do let v ← eval (.Lambda params body scope lpos) X.env; standAt pos; pure v) :: (backToKw pos (keywordEach [] X.env)).map (·.2))) _ _ _
  have hP1 : P ∈ W1.tb.l := by rw [t1.tb, st.tbe]; exact hP
  have hQ1 : W1.tb.q P = some (X.env.qual ++ "<lambda>") := by rw [t1.tb, st.tbe]; exact hQ
  have hTS : LamX.TabS H2 P (X.env.qual ++ "<lambda>") := by
    obtain ⟨⟨ps, e1, e2⟩, e3⟩ := (pn1.tab P hP1).2
    refine ⟨ps, e1, e2, fun ps' cv hcv => ?_⟩
    obtain ⟨cc, a1, a2⟩ := e3 _ hQ1 ps e1 ps' cv hcv
    exact ⟨cc, a1, sm1 _ _ a2⟩
  refine wpAny_evalAll_cons (wpAny_bind (lam_make3 I3 TB hcode hTS hdef (L.has I3.ok) fun f c' pm ctv H3 s3 I4 hh hf hfn hfr hco hsz => wpAny_bind (wpAny_standAt (wpAny_pure ?_))))
  refine wpAny_evalAll_nil ?_
  have hsz' : s2.heap.objs.size ≤ f := Nat.le_trans (by rw [Heap.size_push]; omega) hsz
  obtain ⟨W3, t3, pn3, sm3⟩ : ∃ W3, Step W1 H2 W3 H3 ∧ PenOk W3 H3 π1 ∧ Same W3.F H3 := by
    rcases hh with ⟨rfl, _⟩ | ⟨ps, more, e1, rfl, e2, e3, e4⟩
    · exact ⟨W1, Step.refl _ _, pn1, sm1⟩
    · exact ⟨_, lam_world sm1 pn1 hP1 hQ1 e1 e2 e3 e4⟩
  have I5 : Inv X ((pins ++ [(s2.heap.objs.size, { cls := .type "range", data := .fields #[.int 0 s2.toks, .int n tn, .int 1 (s2.toks + 1)] })]) ++ [(f, PySem.W.kla_obj "<lambda>" (X.env.qual ++ "<lambda>") params body scope (cloFrom X.env.cells scope.names []) pm c' ctv)]) σ H3 s3 := I4.pins_of fun p hp => by
    rcases List.mem_append.mp hp with hp | hp
    · exact I4.pin p (List.mem_append_right _ hp)
    · rw [List.mem_singleton] at hp
      subst hp
      refine ⟨hf, hfn, fun z => ?_, I2.nofs hsz', fun v z => by cases z⟩
      have z : f = X.env.locals := z
      have hl := I2.lt
      exact Nat.lt_irrefl _ (Nat.lt_of_lt_of_le (show f < s2.heap.objs.size by rw [z]; exact hl) hsz')
  have hrg : IsRange s3.heap s2.heap.objs.size 0 n 1 s2.toks tn (s2.toks + 1) := (I5.pin (s2.heap.objs.size, _) (List.mem_append_right _ (List.mem_append_left _ (List.mem_append_right _ (List.mem_singleton.mpr rfl))))).1
  have fin := sort_run (tb := tb) (E' := X.xe) (Q := Q) (k := k) rfl (List.mem_append_right _ (List.mem_singleton.mpr rfl)) L nd hN hbind hr (fun s H => hbody s H f c' (hr.in1.in1.deeper _) gd) I5 (st1.step t3 pn3 sm3) hco hrg h0 h1 hk hrw
    (fun W' H' p xs t pn sm n1 n2 n3 e z r => q2 W' H' p xs (t3.trans t) pn sm (t3.there _ n1) n2 n3 e z r)
  refine thn fin fun v s' he => ?_
  obtain ⟨x1, H', J, r, hq⟩ := he
  exact ⟨x1, H', pins_sub J fun p hp => List.mem_append_left _ (List.mem_append_left _ hp), r, hq⟩
end
/-! ### list(range(..)) -/
def lRg1 (f : SE Dv) : SE (List PyData) := fun ρ π => (f ρ π).bind fun d π1 => match d with
  | .val (.int n) => if -(2 ^ 62) ≤ n ∧ n ≤ 16777216 then .ok (rngL 0 1 n.toNat) π1 else .bad
  | _ => .bad
def lRg2 (f g : SE Dv) : SE (List PyData) := fun ρ π => (f ρ π).bind fun d π1 => (g ρ π1).bind fun e π2 => match d, e with
  | .val (.int i), .val (.int j) => if 0 ≤ i ∧ i ≤ 16777216 ∧ 0 ≤ j ∧ j ≤ 16777216 then .ok (rngL i 1 (j - i).toNat) π2 else .bad
  | _, _ => .bad
theorem dq_rg {F : Hp} (a b : Int) : DqAll F (rgV a b) (rngL a 1 (b - a).toNat) := by
  have e1 : rgV a b = ((List.range (b - a).toNat).map fun i : Nat => a + (i : Int)).map V.int := by unfold rgV; rw [List.map_map]; rfl
  have e2 : rngL a 1 (b - a).toNat = ((List.range (b - a).toNat).map fun i : Nat => a + (i : Int)).map PyData.int := by
    unfold rngL; rw [List.map_map]
    exact List.map_congr_left fun i _ => by show PyData.int (a + (i : Int) * 1) = PyData.int (a + (i : Int)); rw [Int.mul_one]
  rw [e1, e2]
  exact DqAll.ints _
section
variable {X : Cx} {tb : Tb} {B : WX}
theorem l_listRg1 {p rp rpos pos : Pos} {ea : Expr} {f : SE Dv} (hc : X.calm = true) (hm : X.mg "list" = none) (hmr : X.mg "range" = none) (ha : PE X ea (tE (Cx.md X tb) B f)) (hg : Gl X "list" := by rfl) (hgr : Gl X "range" := by rfl)
    (na : starEach [ea] X.env = (false, eval ea X.env) :: starEach [] X.env := by rfl) (he : starEach [.Call (.Name "range" rp) [ea] [] rpos] X.env = (false, eval (.Call (.Name "range" rp) [ea] [] rpos) X.env) :: starEach [] X.env := by rfl) :
    PE X (.Call (.Name "list" p) [.Call (.Name "range" rp) [ea] [] rpos] [] pos) (tL (Cx.md X tb) B (lRg1 f)) := by
  refine PE.weak (pe_listRg hc hg hm (prg_1 hgr hmr ha na) he) ?_
  rintro σ H Q ⟨W, ρ, π, st, p⟩
  unfold lRg1 at p
  refine ⟨W, ρ, π, st, ?_⟩
  cases z : f ρ π with
  | bad => rw [z] at p; exact p
  | exn n π' => rw [z] at p; exact p
  | ok d π1 =>
    rw [z] at p
    simp only [Res.bind] at p
    intro W1 H1 v s1 pn1 sm1 r1
    split at p
    · rename_i n
      split at p
      · rename_i hn
        refine ⟨n, rv_int (X := X) r1, ⟨by decide, by decide, by omega, by omega, by omega⟩, fun q nq => ?_⟩
        obtain ⟨t, pn, sm⟩ := freshOwn (o := .lst (rgV 0 n)) sm1 pn1 nq
        have e : (n - 0).toNat = n.toNat := by omega
        exact p W1 _ q _ (s1.trans t) pn sm (s1.there _ nq) (sm1.free nq) (pn1.npa nq) upd_same (by rw [rgV_length, sizeLine_eq]; omega) (by have := dq_rg (F := W1.F) 0 n; rw [e] at this; exact this)
      · exact p.elim
    · exact p.elim
theorem l_listRg2 {p rp rpos pos : Pos} {ea eb : Expr} {f g : SE Dv} (hc : X.calm = true) (hm : X.mg "list" = none) (hmr : X.mg "range" = none) (ha : PE X ea (tE (Cx.md X tb) B f)) (hb : PE X eb (tE (Cx.md X tb) B g)) (hg : Gl X "list" := by rfl) (hgr : Gl X "range" := by rfl)
    (na : starEach [ea, eb] X.env = (false, eval ea X.env) :: starEach [eb] X.env := by rfl) (nb : starEach [eb] X.env = (false, eval eb X.env) :: starEach [] X.env := by rfl) (hp : (backTo rpos (starEach [eb] X.env)).any (·.1) = false := by rfl)
    (he : starEach [.Call (.Name "range" rp) [ea, eb] [] rpos] X.env = (false, eval (.Call (.Name "range" rp) [ea, eb] [] rpos) X.env) :: starEach [] X.env := by rfl) :
    PE X (.Call (.Name "list" p) [.Call (.Name "range" rp) [ea, eb] [] rpos] [] pos) (tL (Cx.md X tb) B (lRg2 f g)) := by
  refine PE.weak (pe_listRg hc hg hm (prg_2 hgr hmr ha hb na nb hp) he) ?_
  rintro σ H Q ⟨W, ρ, π, st, p⟩
  unfold lRg2 at p
  refine ⟨W, ρ, π, st, ?_⟩
  cases z : f ρ π with
  | bad => rw [z] at p; exact p
  | exn n π' => rw [z] at p; exact p
  | ok d π1 =>
    rw [z] at p
    simp only [Res.bind] at p
    intro W1 H1 v s1 pn1 sm1 r1
    refine ⟨W1, ρ, π1, st.step s1 pn1 sm1, ?_⟩
    cases z2 : g ρ π1 with
    | bad => rw [z2] at p; exact p
    | exn n π' =>
      rw [z2] at p
      exact fun W' H' C s p' sm' e => p W' H' C (s1.trans s) p' sm' e
    | ok e π2 =>
      rw [z2] at p
      intro W2 H2 u s2 pn2 sm2 r2
      simp only [] at p
      split at p
      · rename_i i j
        split at p
        · rename_i hn
          obtain ⟨h1, h2, h3, h4⟩ := hn
          refine ⟨i, j, rv_int (X := X) r1, rv_int (X := X) r2, RgOk.of_le h1 h4 h2 h3, fun q nq => ?_⟩
          obtain ⟨t, pn, sm⟩ := freshOwn (o := .lst (rgV i j)) sm2 pn2 nq
          exact p W2 _ q _ ((s1.trans s2).trans t) pn sm (s1.there _ (s2.there _ nq)) (sm2.free nq) (pn2.npa nq) upd_same (by rw [rgV_length, sizeLine_eq]; omega) (dq_rg i j)
        · exact p.elim
      · exact p.elim
end
/-! ### running them -/
section
variable {E : Str → Pn → Prop} {ρ : List Sv} {π : Pn}
theorem w_lRg1 {f : SE Dv} {Q : List PyData → Pn → Prop} (h : wR (f ρ π) E fun d π => ∃ n : Int, d = .val (.int n) ∧ (-(2 ^ 62) ≤ n ∧ n ≤ 16777216) ∧ Q (rngL 0 1 n.toNat) π) : wR (lRg1 f ρ π) E Q := by
  unfold lRg1
  refine wR_bind (wR_mono h ?_ fun _ _ h => h)
  rintro d π1 ⟨n, rfl, hn, q⟩
  show wR (if _ then _ else _) E Q
  rw [if_pos hn]; exact q
theorem w_lRg2 {f g : SE Dv} {Q : List PyData → Pn → Prop} (h : wR (f ρ π) E fun d π => wR (g ρ π) E fun e π => ∃ i j : Int, d = .val (.int i) ∧ e = .val (.int j) ∧ (0 ≤ i ∧ i ≤ 16777216 ∧ 0 ≤ j ∧ j ≤ 16777216) ∧ Q (rngL i 1 (j - i).toNat) π) : wR (lRg2 f g ρ π) E Q := by
  unfold lRg2
  refine wR_bind (wR_mono h ?_ fun _ _ h => h)
  intro d π1 h
  refine wR_bind (wR_mono h ?_ fun _ _ h => h)
  rintro e π2 ⟨i, j, rfl, rfl, hn, q⟩
  show wR (if _ then _ else _) E Q
  rw [if_pos hn]; exact q
theorem keysGo_of {f : SE Dv} {ip : Nat} {π : Pn} {key : Int → List Int} : ∀ {is : List Int} (_ : ∀ i ∈ is, f (ρ.set ip (.val (.val (.int i)))) π = .ok (.val (.list ((key i).map PyData.int))) π), keysGo f ip ρ is π = .ok (is.map fun i => PyData.list ((key i).map PyData.int)) π
  | [], _ => rfl
  | i :: is, h => by
    unfold keysGo
    rw [h i (by simp)]
    show (match keysGo f ip ρ is π with | .ok ks π2 => Res.ok (_ :: ks) π2 | _ => Res.bad) = _
    rw [keysGo_of fun j hj => h j (by simp [hj])]
    rfl
theorem intsD_map : ∀ l : List Int, intsD (l.map PyData.int) = some l
  | [] => rfl
  | i :: l => by
    show (match intD (.int i), intsD (l.map PyData.int) with | some i, some is => some (i :: is) | _, _ => none) = _
    rw [intsD_map l]; rfl
theorem rowsD_map : ∀ l : List (List Int), rowsD (l.map fun r => PyData.list (r.map PyData.int)) = some l
  | [] => rfl
  | r :: l => by
    show (match rowD (.list (r.map PyData.int)), rowsD (l.map fun r => PyData.list (r.map PyData.int)) with | some i, some is => some (i :: is) | _, _ => none) = _
    rw [rowsD_map l]
    show (match intsD (r.map PyData.int), some l with | some i, some is => some (i :: is) | _, _ => none) = _
    rw [intsD_map r]
/-- the keys of 0 .. n - 1 are the rows key i -/
theorem w_sortK {fa F : SE Dv} {ip : Nat} {Q : List PyData → Pn → Prop} (key : Int → List Int) (h : wR (fa ρ π) E fun d π => ∃ n : Nat, d = .val (.int n) ∧ n ≤ 16777216 ∧ (∀ i : Nat, i < n → F (ρ.set ip (.val (.val (.int i)))) π = .ok (.val (.list ((key i).map PyData.int))) π) ∧
    Q ((sortRows ((List.range n).map fun i : Nat => key i)).map PyData.int) π) : wR (lSortK fa ip F ρ π) E Q := by
  unfold lSortK
  refine wR_bind (wR_mono h ?_ fun _ _ h => h)
  rintro d π1 ⟨n, rfl, hn, hk, q⟩
  show wR (if 0 ≤ (n : Int) ∧ (n : Int) ≤ 16777216 then _ else _) E Q
  rw [if_pos ⟨by omega, by omega⟩]
  have e : keysGo F ip ρ (belowI n) π1 = .ok ((belowI n).map fun i => PyData.list ((key i).map PyData.int)) π1 := keysGo_of fun i hi => by
    unfold belowI at hi
    obtain ⟨j, hj, rfl⟩ := List.mem_map.mp hi
    exact hk j (by have := List.mem_range.mp hj; omega)
  rw [e]
  have e2 : (belowI n).map (fun i => PyData.list ((key i).map PyData.int)) = ((List.range n).map fun i : Nat => key i).map fun r => PyData.list (r.map PyData.int) := by
    unfold belowI
    rw [List.map_map, List.map_map]
    rfl
  rw [e2]
  show wR (match rowsD _ with | some rows => Res.ok ((sortRows rows).map PyData.int) π1 | none => Res.bad) E Q
  rw [rowsD_map]
  exact q
end
/-! ### a comprehension in a comprehension's item -/
def relab (scope sc : Scope) : Scope :=
  { scope with names := scope.names.map fun (n, k) => if (k == .free && sc.kind == .function && sc.names.lookup n == some .cell) then (n, .cell) else (n, k) }
theorem blkOk_in {N : List Str} {sc0 scope0 scope : Scope} {own : List (Str × Nat)} {env : Env} (he : env.scope = sc0) (h : blkC N (relab scope0 sc0) scope own = true) : BlkOk N (relabel scope0 env) scope own := by
  subst he
  exact blkOk_by h
/-! ### zip of two texts, two lists, two tuples -/
def iZipX (g : SE (List Dv)) : SE (List PyData) := fun ρ π => (g ρ π).bind fun ds π2 => match ds with
  | [.val (.str x), .val (.str y)] => .ok (zipL (signs x) (signs y)) π2
  | [.val (.list x), .val (.list y)] => .ok (zipL x y) π2
  | [.val (.tuple x), .val (.tuple y)] => .ok (zipL x y) π2
  | _ => .bad
theorem w_zipT {F : Hp} {K : PySem.W.Frag} {a b : Addr} {xs ys : List V} {ds es : List PyData} (e : ∃ o, F a = some (.frz o (.tup xs)) ∧ PlT o) (r : DqAll F xs ds) (e' : ∃ o, F b = some (.frz o (.tup ys)) ∧ PlT o) (r' : DqAll F ys es) : IsWalkG Dw F (RZ.ItzT K a b) (zipL ds es) := by
  have hl : (zipL ds es).length = min xs.length ys.length := by rw [zipL_len, r.length, r'.length]
  refine ⟨fun i H hi s => ?_, fun H s => ⟨xs, ys, SqT_frz e s, SqT_frz e' s, by rw [hl]; omega⟩, fun i H x H' W π d y e2 s s2 p => ?_⟩
  · rw [hl] at hi
    exact ⟨xs, ys, xs[i]'(by omega), ys[i]'(by omega), SqT_frz e s, SqT_frz e' s, by simp [show i < xs.length by omega], by simp [show i < ys.length by omega]⟩
  · obtain ⟨T, x, y1, rfl, n, rfl, h1, h2⟩ := y
    obtain ⟨d1, d2, e3, e4, rfl⟩ := zipL_get e2
    obtain ⟨v, hv, rv⟩ := r.get' e3
    obtain ⟨u, hu, ru⟩ := r'.get' e4
    have q1 := h1 xs (SqT_frz e (s.trans s2))
    have q2 := h2 ys (SqT_frz e' (s.trans s2))
    rw [hv] at q1; cases q1
    rw [hu] at q2; cases q2
    exact pair_step s2 p n (rv.mono s) (ru.mono s)
section
variable {X : Cx} {tb : Tb} {B : WX}
theorem i_zipX {e e2 : Expr} {p pos tpos : Pos} {elts : List Expr} {kk : Nat} {g : SE (List Dv)} (hm : X.mg "zip" = none) (ha : PA X [e, e2] (tA (Cx.md X tb) B g)) (hg : Gl X "zip" := by rfl) (hs : starEach [e, e2] X.env = (false, eval e X.env) :: starEach [e2] X.env := by rfl)
    (hpl : (backTo pos (starEach [e2] X.env)).any (·.1) = false := by rfl) : PI X (.Tuple elts kk tpos) (.Call (.Name "zip" p) [e, e2] [] pos) (tIG Dw (Cx.md X tb) B (iZipX g)) := by
  refine ⟨fun pins s σ H R I ⟨W, ρ, π, st, p⟩ => ?_⟩
  unfold iZipX at p
  cases q : g ρ π with
  | bad => rw [q] at p; exact p.elim
  | exn n π' => rw [q] at p; exact (i_zip hm ha hg hs hpl).run pins s σ H R I ⟨W, ρ, π, st, by unfold iZip; rw [q]; exact p⟩
  | ok ds π1 =>
    rw [q] at p
    simp only [Res.bind] at p
    split at p
    · exact (i_zip hm ha hg hs hpl).run pins s σ H R I ⟨W, ρ, π, st, by unfold iZip; rw [q]; exact p⟩
    · exact (i_zip hm ha hg hs hpl).run pins s σ H R I ⟨W, ρ, π, st, by unfold iZip; rw [q]; exact p⟩
    · refine (RZ.pi_zipA hg hm ha hs hpl).run pins s σ H R I ⟨W, ρ, π, st, ?_⟩
      rw [q]
      intro W1 H1 vs s1 pn1 sm1 r1
      obtain ⟨v, w, rfl, r2, r3⟩ := rvl2 r1
      obtain ⟨a, xs, rfl, e, z, r⟩ := rv_tup (X := X) r2
      obtain ⟨b, ys, rfl, e', z', r'⟩ := rv_tup (X := X) r3
      exact ⟨a, b, xs, ys, rfl, .inr ⟨SqT_frz e sm1, SqT_frz e' sm1, p W1 H1 _ s1 pn1 sm1 (w_zipT e r e' r')⟩⟩
    · exact p.elim
end
section
variable {E : Str → Pn → Prop} {ρ : List Sv} {π : Pn}
theorem w_izipX {g : SE (List Dv)} {Q : List PyData → Pn → Prop} (h : wR (g ρ π) E fun ds π => ∃ x y, (ds = [.val (.list x), .val (.list y)] ∨ ds = [.val (.tuple x), .val (.tuple y)]) ∧ Q (zipL x y) π) : wR (iZipX g ρ π) E Q := by
  refine wR_bind (wR_mono h ?_ fun _ _ x => x)
  rintro _ π ⟨x, y, rfl | rfl, h⟩ <;> exact h
theorem w_izipXS {g : SE (List Dv)} {Q : List PyData → Pn → Prop} (h : wR (g ρ π) E fun ds π => ∃ x y, ds = [.val (.str x), .val (.str y)] ∧ Q (zipL (signs x) (signs y)) π) : wR (iZipX g ρ π) E Q := by
  refine wR_bind (wR_mono h ?_ fun _ _ x => x)
  rintro _ π ⟨x, y, rfl, h⟩; exact h
end
end DL

set_option maxRecDepth 100000
set_option maxHeartbeats 2000000
namespace DL
open PySem PySem.Spec PyProof.Rows L2
/-! ### comprehensions over a list that is still held -/
def iOwn (i : Nat) : SE (List PyData) := fun ρ π => match ρ[i]? with
  | some (.own ds) => .ok ds π
  | _ => .bad
def tIO (K : PySem.W.Frag) (i : Nat) : TI := fun σ H R => ∃ a xs, σ[i]? = some (some (.ref a)) ∧ H a = some (.lst xs) ∧ R (Itl K a) H
theorem oneStep {α : Type} {a : α} {P : Prop} (h : ∀ b, b = a → P) : P := h a rfl
section
variable {X : Cx} {tb : Tb} {M : Md} {B : WX} {W0 : Wd} {H0 : Hp}
theorem i_own (i : Nat) {tg : Expr} {x : Str} {p : Pos} (hN : X.N[i]? = some x := by rfl) (hv : Vis X.env.scope x := by first | exact Or.inl rfl | exact Or.inr (Or.inl rfl) | exact Or.inr (Or.inr rfl)) (hd : (x == ("__debug__" : Str)) = false := by decide) (hcd : (x == ("__classdict__" : Str)) = false := by decide) : PI X tg (.Name x p) (tIO X.K i) := by
  refine ⟨fun pins s σ H R I ⟨a, xs, h1, h2, r⟩ => ?_⟩
  exact (pi_list (pe_var hN hv hd hcd)).run pins s σ H R I ⟨_, h1, a, rfl, ⟨xs, SqL.of h2⟩, r⟩
theorem lcO_imp {K : PySem.W.Frag} {io : Nat} {g : TG} {is vs : List Nat} {tg : PyData → List Sv → Option (List Sv)} {c : SE Bool} {f : SE Dv} (gd : GD g is tg) (hv : ∀ i ∈ is, i ∈ vs) :
    ∀ σ H Q, tL M B (lComp (iOwn io) tg c f vs) σ H Q → tLc (tIO K io) g (tT M B0 c) (tE M B0 f) vs σ H Q := by
  rintro σ H Q ⟨W, ρ, π, st, p⟩
  unfold lComp iOwn at p
  cases q : ρ[io]? with
  | none => rw [q] at p; exact p.elim
  | some sv =>
  cases sv with
  | emp => rw [q] at p; exact p.elim
  | val _ => rw [q] at p; exact p.elim
  | own ds =>
    rw [q] at p
    have p : PostL M B W H σ Q (if ds.length < 16777216 then compGo tg c f (wipeS ρ vs) ds π else .bad) := p
    obtain ⟨oa, oxs, o1, o2, o3, o4, o5, o6⟩ := own_at st q
    refine ⟨oa, oxs, o1, o4, ?_⟩
    split at p
    case isFalse => exact p.elim
    case isTrue hlen =>
    obtain ⟨W1, H1, π1, e1, e2, e3⟩ : ∃ W1 H1 π1, W1 = W ∧ H1 = H ∧ π1 = π := ⟨_, _, _, rfl, rfl, rfl⟩
    subst e1 e2 e3
    have s1 : Step W1 H1 W1 H1 := Step.refl _ _
    have pn1 := st.pen
    have sm1 := st.same
    have kp : ∀ {W2 : Wd} {H2 : Hp}, Step W1 H1 W2 H2 → H2 oa = some (.lst oxs) := fun s => s.keep _ _ o4 o3 .lst
    intro D nD
    have st1 := (st.step s1 pn1 sm1).wipe vs
    have apD : ∀ {W2 : Wd} {H2 : Hp} {π2 : Pn}, StE M W1 H1 (wipeS ρ vs) π1 (L2.wipe σ vs) → ∀ (i : Nat) (es : List PyData), (wipeS ρ vs)[i]? = some (.own es) → (L2.wipe σ vs)[i]? ≠ some (some (.ref D)) := fun t i es h1 h2 => by
      obtain ⟨o, g1, g2⟩ := t.sl i _ h1
      rw [h2] at g1; cases g1
      cases g2 with
      | own _ _ h3 _ _ => rw [nD] at h3; cases h3
    have ap := apD (W2 := W1) (H2 := H1) (π2 := π1) st1
    obtain ⟨sD, pnD, smD⟩ := freshOwn (o := .lst []) sm1 pn1 nD
    have npD : W1.pa ≠ some D := pn1.npa nD
    have p0 : PostC M W1 H1 D Q [] (compGo tg c f (wipeS ρ vs) ds π1) := by
      cases e : compGo tg c f (wipeS ρ vs) ds π1 with
      | bad => rw [e] at p; exact p
      | exn n π' =>
        exfalso
        have no : ∀ (l : List PyData) (π : Pn) n π', compGo tg c f (wipeS ρ vs) l π ≠ .exn n π' := by
          intro l
          induction l with
          | nil => intro π n π' z; cases z
          | cons d r ih =>
            intro π n π' z
            unfold compGo at z
            cases q1 : tg d (wipeS ρ vs) with
            | none => simp only [q1] at z; cases z
            | some ρ1 =>
              simp only [q1] at z
              cases q2 : c ρ1 π with
              | bad => rw [q2] at z; cases z
              | exn _ _ => rw [q2] at z; cases z
              | ok b π2 =>
                rw [q2] at z
                simp only [noexn, Res.bind] at z
                split at z
                · cases q3 : f ρ1 π2 with
                  | bad => rw [q3] at z; cases z
                  | exn _ _ => rw [q3] at z; cases z
                  | ok v π3 =>
                    rw [q3] at z
                    simp only at z
                    split at z
                    · cases q4 : compGo tg c f (wipeS ρ vs) r π3 with
                      | bad => rw [q4] at z; cases z
                      | ok _ _ => rw [q4] at z; cases z
                      | exn _ _ => exact ih _ _ _ q4
                    · cases z
                · exact ih _ _ _ z
        exact no _ _ _ _ e
      | ok es π' =>
        rw [e] at p
        exact fun W' H' xs s pn sm a1 a2 a3 a4 a5 => p W' H' D xs (s1.trans s) pn sm (s1.there D nD) a1 a2 a3 a4 a5
    refine ⟨fun i m H => m = ds.length - i ∧ i ≤ ds.length ∧ ∃ W2 π2 xs acc, Step W1 H1 W2 H ∧ StE M W2 H (wipeS ρ vs) π2 (L2.wipe σ vs) ∧ W2.F D = none ∧ W2.pa ≠ some D ∧ H D = some (.lst xs) ∧ xs.length ≤ i ∧ DqAll W2.F xs acc ∧ PostC M W1 H1 D Q acc (compGo tg c f (wipeS ρ vs) (ds.drop i) π2),
      ⟨ds.length, by simp, Nat.zero_le _, W1, π1, [], [], sD, st1.step sD pnD smD, sm1.free nD, npD, upd_same, Nat.le_refl _, .nil, p0⟩, ?_⟩
    rintro i m H2 ⟨rfl, hi, W2, π2, xs, acc, s2, st2, nf2, np2, e2, l2, r2, p2⟩
    by_cases hlt : i < ds.length
    · refine .inr ⟨⟨oxs, oxs[i]'(by rw [o6.length]; exact hlt), SqL.of (kp s2), by simp⟩, fun H' => ∃ W3 π3 xs acc, Step W1 H1 W3 H' ∧ StE M W3 H' (wipeS ρ vs) π3 (L2.wipe σ vs) ∧ W3.F D = none ∧ W3.pa ≠ some D ∧ H' D = some (.lst xs) ∧ xs.length ≤ i + 1 ∧ DqAll W3.F xs acc ∧ PostC M W1 H1 D Q acc (compGo tg c f (wipeS ρ vs) (ds.drop (i + 1)) π3),
        fun H' h => ⟨ds.length - (i + 1), by omega, rfl, hlt, h⟩, fun x H3 y => ?_⟩
      have ei : ds[i]? = some ds[i] := by simp [hlt]
      obtain ⟨rfl, y⟩ := y
      obtain ⟨xv, hxv, rx⟩ := o6.get' ei
      have yz := y oxs (SqL.of (kp s2))
      rw [hxv] at yz
      cases yz
      have rx := rx.mono s2.sub
      have s3 : Step W2 H3 W2 H3 := Step.refl _ _
      have pn3 := st2.pen
      have sm3 := st2.same
      refine oneStep (a := W2) ?_
      intro W3 e3
      subst e3
      rw [List.drop_eq_getElem_cons hlt] at p2
      unfold compGo at p2
      cases q3 : tg ds[i] (wipeS ρ vs) with
      | none => simp only [q3] at p2; exact p2.elim
      | some ρ3 =>
        simp only [q3] at p2
        refine gd.run (st2.step s3 pn3 sm3) rx q3 fun σ4 st4 o4 f4 l4 => ⟨?_, W3, ρ3, π2, st4, ?_⟩
        · refine (wipe_eq l4 fun j hj => f4 j fun z => hj (hv j z)).trans ?_
          exact wipe_eq (wipe_length _ _) fun j hj => wipe_out' hj
        cases q4 : c ρ3 π2 with
        | bad => rw [q4] at p2; exact p2.elim
        | exn _ _ => rw [q4] at p2; exact p2.elim
        | ok b π4 =>
          rw [q4] at p2
          simp only [noexn, Res.bind] at p2
          intro W4 H4 b' s4 pn4 sm4 eb
          subst eb
          have s14 := s2.trans (s3.trans s4)
          have s24 := s3.trans s4
          have nf4 : W4.F D = none := by
            cases z : W4.F D with
            | none => rfl
            | some o =>
              rcases s24.grow D o z with k | k
              · rw [nf2] at k; cases k
              · rw [e2] at k; cases k
          have np4 : W4.pa ≠ some D := fun z => by
            rcases s24.newpa D z with k | k
            · exact np2 k
            · rw [e2] at k; cases k
          have e4 : H4 D = some (.lst xs) := s24.keep D _ e2 np2 .lst
          cases b' with
          | false =>
            rw [if_neg Bool.false_ne_true] at p2 ⊢
            exact ⟨W4, π4, xs, acc, s14, st2.step s24 pn4 sm4, nf4, np4, e4, Nat.le_succ_of_le l2, r2.mono s24.sub, p2⟩
          | true =>
            rw [if_pos rfl] at p2 ⊢
            refine ⟨W4, ρ3, π4, st4.step s4 pn4 sm4, ?_⟩
            cases q5 : f ρ3 π4 with
            | bad => rw [q5] at p2; exact p2.elim
            | exn _ _ => rw [q5] at p2; exact p2.elim
            | ok v π5 =>
              rw [q5] at p2
              simp only at p2
              intro W5 H5 y' s5 pn5 sm5 ry
              have s25 := s24.trans s5
              have s15 := s14.trans s5
              cases v with
              | pen => exact p2.elim
              | scr _ => exact p2.elim
              | err _ => exact p2.elim
              | ppr _ => exact p2.elim
              | dct _ => exact p2.elim
              | fn _ => exact p2.elim
              | val yd =>
                have ry : Dq W5.F y' yd := by cases ry with | val r => exact r
                have nf5 : W5.F D = none := by
                  cases z : W5.F D with
                  | none => rfl
                  | some o =>
                    rcases s5.grow D o z with k | k
                    · rw [nf4] at k; cases k
                    · rw [e4] at k; cases k
                have np5 : W5.pa ≠ some D := fun z => by
                  rcases s5.newpa D z with k | k
                  · exact np4 k
                  · rw [e4] at k; cases k
                have e5 : H5 D = some (.lst xs) := s5.keep D _ e4 np4 .lst
                have hz : xs.length < sizeLine := by
                  have := sizeLine_eq
                  omega
                have st5 := st2.step s25 pn5 sm5
                refine ⟨xs, e5, hz, W5, π5, xs ++ [y'], acc ++ [yd], step_D s15 nD, st5.writeD nf5 np5 e5 ap, nf5, np5, upd_same, by simp; exact l2, (r2.mono s25.sub).append (.cons ry .nil), ?_⟩
                cases q6 : compGo tg c f (wipeS ρ vs) (ds.drop (i + 1)) π5 with
                | bad => rw [q6] at p2; exact p2
                | exn _ _ => rw [q6] at p2; exact p2
                | ok es π6 =>
                  rw [q6] at p2
                  intro W' H' zs s6 pn6 sm6 a1 a2 a3 a4 a5
                  exact p2 W' H' zs s6 pn6 sm6 a1 a2 a3 a4 (by rw [List.append_assoc] at a5; exact a5)
    · have e : i = ds.length := by omega
      subst e
      rw [List.drop_length] at p2
      refine .inl ⟨⟨oxs, SqL.of (kp s2), by rw [o6.length]; exact Nat.le_refl _⟩, p2 W2 H2 xs s2 st2.pen st2.same nf2 np2 e2 ?_ (by rw [List.append_nil]; exact r2)⟩
      have := sizeLine_eq
      omega

theorem l_compO {K : PySem.W.Frag} {elt tg iter : Expr} {ifs : List Expr} {scope : Scope} {pos : Pos} {io : Nat} {g : TG} {is : List Nat} {tgt : PyData → List Sv → Option (List Sv)} {c : SE Bool} {f : SE Dv} (own : List (Str × Nat)) (hc : X.calm = true) (hN : X.N.Nodup) (hi : PI X tg iter (tIO K io))
    (ok : BlkOk X.N X.env.scope scope own) (gd : GD g is tgt) (hv : ∀ i ∈ is, i ∈ own.map (·.2))
    (hg : ∀ (s : Shared) (H : Hp) (C : Addr) (cl : List (Str × Addr)) (fp : List Addr), PG (Cx.blk X s H scope (compEnvC scope cl C X.env) fp) tg g) (ht : ∀ (s : Shared) (H : Hp) (C : Addr) (cl : List (Str × Addr)) (fp : List Addr), PTs (Cx.blk X s H scope (compEnvC scope cl C X.env) fp) ifs (tT M B0 c))
    (he : ∀ (s : Shared) (H : Hp) (C : Addr) (cl : List (Str × Addr)) (fp : List Addr), PE (Cx.blk X s H scope (compEnvC scope cl C X.env) fp) elt (tE M B0 f)) (hs : ∀ x, foldedSetIterable iter X.env x = pure x := by intro _; rfl) :
    PE X (.ListComp elt [⟨tg, iter, ifs, 0⟩] scope pos) (tL M B (lComp (iOwn io) tgt c f (own.map (·.2)))) := PE.weak (pe_lc hc hN hi ok hg ht he hs) (lcO_imp gd hv)
theorem s_setLcP {K : PySem.W.Frag} {elt tg iter : Expr} {ifs : List Expr} {scope : Scope} {py pos spos : Pos} {y : Str} {io : Nat} {g : TG} {is : List Nat} {tgt : PyData → List Sv → Option (List Sv)} {c : SE Bool} {f : SE Dv} (i : Nat) (own : List (Str × Nat)) (hc : X.calm = true) (hN : X.N.Nodup) (hi : PI X tg iter (tIO K io))
    (ok : BlkOk X.N X.env.scope scope own) (gd : GD g is tgt) (hv : ∀ i ∈ is, i ∈ own.map (·.2))
    (hg : ∀ (s : Shared) (H : Hp) (C : Addr) (cl : List (Str × Addr)) (fp : List Addr), PG (Cx.blk X s H scope (compEnvC scope cl C X.env) fp) tg g) (ht : ∀ (s : Shared) (H : Hp) (C : Addr) (cl : List (Str × Addr)) (fp : List Addr), PTs (Cx.blk X s H scope (compEnvC scope cl C X.env) fp) ifs (tT M B0 c))
    (he : ∀ (s : Shared) (H : Hp) (C : Addr) (cl : List (Str × Addr)) (fp : List Addr), PE (Cx.blk X s H scope (compEnvC scope cl C X.env) fp) elt (tE M B0 f))
    (hy : X.N[i]? = some y := by rfl) (hyl : X.env.scope.names.lookup y = some .local := by rfl) (hsw : swapsWith (.ListComp elt [⟨tg, iter, ifs, 0⟩] scope pos) (some (.Name y py)) spos.line X.env = pure true := by exact sw_true rfl rfl rfl (by decide +kernel)) (hs : ∀ x, foldedSetIterable iter X.env x = pure x := by intro _; rfl) :
    PS X (.Assign [.Name y py] (.ListComp elt [⟨tg, iter, ifs, 0⟩] scope pos) spos) (tS M W0 H0 B (sSet i (eFrz (lComp (iOwn io) tgt c f (own.map (·.2)))))) :=
  PS.weak (ps_setLc hc hN hy hyl hsw hi ok hg ht he hs) (set_imp fun σ H Q h => lcO_imp gd hv σ H Q (frz_imp σ H Q h))
end
section
variable {ρ : List Sv} {π : Pn} {E : Str → Pn → Prop}
theorem w_iown {i : Nat} {ds : List PyData} {Q : List PyData → Pn → Prop} (e : ρ[i]? = some (.own ds)) (h : Q ds π) : wR (iOwn i ρ π) E Q := by
  unfold iOwn; rw [e]; exact h
end
end DL

set_option maxRecDepth 100000
set_option maxHeartbeats 8000000
namespace DL
open PySem PySem.Spec PyProof.Rows L2
/-! ### in, with nested data on the left -/
def seqOf : PyData → Option (List PyData)
  | .list es => some es
  | .tuple es => some es
  | _ => none
def inX (d e : PyData) : Option Bool := (seqOf e).bind fun es => if d.plain && PyData.plainAll es && decide (d.depth ≤ 60) then some (es.any fun y => PyData.eqv y d) else none
def dInX : Dv → Dv → Option Dv
  | .val d, .val e => (inX d e).map fun b => .val (.bool b)
  | _, _ => none
section
variable {X : Cx} {tb : Tb}
theorem o_inX (hu : X.A.units + 64 < cLine) : OpR X (compareOp .In) (rD (Cx.md X tb) dInX) := by
  rintro pins s σ H x y v u Q I rx ry ⟨W, d, e, z, sm, rd, re, hz, q⟩
  unfold dInX at hz
  split at hz
  · rename_i d e
    cases hq : inX d e with
    | none => rw [hq] at hz; cases hz
    | some b =>
      rw [hq] at hz; cases hz
      unfold inX at hq
      cases hs : seqOf e with
      | none => rw [hs] at hq; cases hq
      | some es =>
        rw [hs] at hq
        have hq : (if d.plain && PyData.plainAll es && decide (d.depth ≤ 60) then some (es.any fun y => PyData.eqv y d) else none) = some b := hq
        split at hq
        · rename_i hp
          simp only [Bool.and_eq_true, decide_eq_true_eq] at hp
          obtain ⟨⟨p1, p2⟩, p3⟩ := hp
          cases hq
          obtain ⟨as, r1⟩ := Dp.reads I d x v ((rv_data rd).dp sm) rx
          obtain ⟨bs, r2⟩ := Dp.reads I e y u ((rv_data re).dp sm) ry
          have fin : Q (.bl (es.any fun y => PyData.eqv y d)) H := stay q sm (.val (.bl _))
          have hm := Nat.min_le_right (PyData.depthAll es) d.depth
          cases e with
          | list es' =>
            cases hs
            exact SeqAt.in_list_data r2 r1 p2 p1 (by omega) ⟨.bl _, H, I, rfl, fin⟩
          | tuple es' =>
            cases hs
            exact SeqAt.in_tuple_data r2 r1 p2 p1 (by omega) ⟨.bl _, H, I, rfl, fin⟩
          | _ => cases hs
        · cases hq
  · cases hz
end
end DL

set_option maxRecDepth 100000
set_option maxHeartbeats 8000000
namespace DLXR
open PySem PySem.Spec PyProof.Rows L2 RT

/-! ### reversed(text) -/
theorem norev_str : typeLookup (.type "str") "__reversed__" = pure none := by rw [typeLookup_type, builtinLookup_eq_fast]; kernel_rfl
theorem get_str : typeLookup (.type "str") "__getitem__" = pure (some (.builtin "str.__getitem__")) := by rw [typeLookup_type, builtinLookup_eq_fast]; kernel_rfl
theorem sub_str_dict : isSubtype (.type "str") (.type "dict") = pure false := by rw [isSubtype_type]; kernel_rfl
def rsObj (x : Str) (t : Tok) (i : Int) : Obj := { cls := .type "reversed", data := .fields #[.str x t, rawInt i] }
def IsRs (h : Heap) (a : Addr) (x : Str) (t : Tok) (i : Int) : Prop := ∃ o, h.get? a = some o ∧ o.cls = .type "reversed" ∧ o.data = .fields #[.str x t, rawInt i]
theorem IsRs.at {h h' : Heap} {a : Addr} {x : Str} {t : Tok} {i : Int} (y : IsRs h a x t i) (e : ∀ o, h.get? a = some o → h'.get? a = some o) : IsRs h' a x t i := let ⟨o, ho, r⟩ := y; ⟨o, e _ ho, r⟩
section
variable {prog : Program} {w : World} {A : Around} {E : Value → Shared → Prop} {s : Shared}
theorem IsRs.typeIs {a : Addr} {x : Str} {t : Tok} {i : Int} (y : IsRs s.heap a x t i) : s.TypeIs (.ref a) "reversed" := let ⟨o, ho, hc, _⟩ := y; ⟨o, ho, hc⟩
theorem code_reversed_str {x : Str} {t : Tok} {Q₁ : Value → Shared → Prop} (hfit : ¬ (x.length : Int) ≥ 2 ^ 63)
    (h : Q₁ (.ref s.heap.objs.size) { s with heap := s.heap.push (rsObj x t ((x.length : Int) - 1)), toks := s.toks + 1 + 1 }) :
    codeAny (model prog w) A (.call (.builtin "reversed.__new__") ⟨[.type "reversed", .str x t], []⟩) (wants Q₁ E) s := by
  have hT : s.TypeIs (.str x t) "str" := typeIs_str s x t
  refine codeAny_of_tree ?_
  show wpAny _ A.in1 (do checkBuiltinCall "reversed.__new__" ⟨[.type "reversed", .str x t], []⟩; again (.builtin "reversed.__new__" ⟨[.type "reversed", .str x t], []⟩)) _ _ s
  refine wpAny_bind (wpAny_of_eq (F.newCall_reversed_1 _) (wpAny_pure ⟨plainId_quiet F.plain_reversed_new _, codeAny_builtin F.entry_reversed_new ?_⟩))
  rw [Around.under_plainId F.plain_reversed_new _]
  unfold Builtin.«reversed.__new__»
  refine wpAny_bind (wpAny_of_eq (newClass_reversed _) ?_)
  try dsimp only
  refine wpAny_bind (wpAny_of_eq (a := ()) (by first | rfl | kernel_rfl) ?_)
  try dsimp only
  refine wpAny_bind (wpAny_of_eq (a := ()) (by first | rfl | kernel_rfl) ?_)
  try dsimp only
  refine wpAny_bind (wpAny_specialOf hT norev_str ?_)
  try dsimp only
  refine wpAny_bind ?_
  wp_delta
  refine wpAny_bind (wpAny_isInstance (T := "str") (U := "dict") (b := false) hT sub_str_dict ?_)
  try dsimp only
  try rw [if_neg Bool.false_ne_true]
  try dsimp only
  refine wpAny_bind (wpAny_specialOf hT get_str ?_)
  try dsimp only
  try rw [if_pos (by decide +kernel)]
  refine wpAny_pure ?_
  try dsimp only
  try rw [if_neg (by decide)]
  try dsimp only
  refine wpAny_bind (PyProof.Rows.len_str hfit ?_)
  refine wpAny_bind (wpAny_of_eq (a := some ((x.length : Nat) : Int)) rfl ?_)
  try dsimp only
  refine wpAny_bind ?_
  show wpAny _ _ (newObj (.type "reversed") (.fields #[.str x t, rawInt ((x.length : Int) - 1)])) _ _ _
  refine wpAny_newObj_type ?_
  exact wpAny_pure h
theorem call_reversed_str {x : Str} {t : Tok} {Q : Value → Shared → Prop} (hfit : ¬ (x.length : Int) ≥ 2 ^ 63)
    (h : Q (.ref s.heap.objs.size) { s with heap := s.heap.push (rsObj x t ((x.length : Int) - 1)), toks := s.toks + 1 + 1 }) : wpAny (model prog w) A (call (.type "reversed") [.str x t]) Q E s := by
  refine callType_codes (Q₁ := fun obj s₁ => s₁.TypeIs obj "reversed" ∧ Q obj s₁) called_rt (F.typeCall_reversed_1 _) F.entry_object_init
    (code_reversed_str (A := A.in1) hfit ⟨⟨_, Heap.get?_push_size _ rfl, rfl⟩, h⟩) fun obj s₁ h₁ => ?_
  exact ⟨h₁.1, F.args_object_init_2 obj _, object_init_meets called_rt.init.lookup called_rt.made (by decide) prog w A.in1 _ s₁ ⟨h₁.1, rfl, h₁.2⟩⟩
theorem next_rs_item {it : Addr} {i : Nat} {x : Str} {t : Tok} {c : Nat} {Q : Option Value → Shared → Prop} (hit : IsRs s.heap it x t (i : Int)) (hx : x.cps[i]? = some c) (hsz : x.length ≤ sizeLine)
    (hQ : ∀ h' u, IsRs h' it x t ((i : Int) - 1) → Heap.SameBut it s.heap h' → Q (some (.str ⟨#[c]⟩ u)) { s with heap := h', toks := s.toks + 1 + 1 }) : wpAny (model prog w) A (pyNext (.ref it)) Q E s := by
  obtain ⟨o, ho, hc, hd⟩ := id hit
  have hi : i < x.length := (Array.getElem?_eq_some_iff.mp hx).1
  have hT : s.TypeIs (.str x t) "str" := typeIs_str s x t
  rw [sizeLine_eq] at hsz
  unfold pyNext
  refine wpAny_bind (wpAny_attempt (wpAny_callSpecial?_slot (name := Str.ofString "__next__") hit.typeIs slot_rt_next
    (wpAny_call_entry slot_rt_next hit.typeIs entry_rt_next ?_ (args_rt_next _))))
  unfold Builtin.«reversed.__next__»
  refine wpAny_bind (wpAny_of_eq (a := (Value.ref it, [])) rfl ?_)
  try dsimp only
  refine wpAny_bind (wpAny_field ho hd (x := .str x t) rfl ?_)
  try dsimp only
  refine wpAny_bind (wpAny_field ho hd (x := rawInt (i : Int)) rfl ?_)
  show wpAny _ _ (if (i : Int) < 0 then _ else _) _ _ s
  rw [if_neg (by omega)]
  try dsimp only
  refine wpAny_bind (wpAny_specialOf hT get_str ?_)
  try dsimp only
  try rw [if_neg (by decide)]
  try dsimp only
  refine wpAny_bind (wpAny_mkInt ?_)
  refine wpAny_bind (wpAny_attempt ?_)
  have fin : seqIndex? (i : Int) x.length = some i := seqIndex_of (by omega) (by omega)
  refine PyProof.Rows.getItem_str (s := { s with toks := s.toks + 1 }) (c := c) (by rw [decide_eq_false (by omega), decide_eq_false (by omega)]; rfl) (by rw [fin]; exact hx) ?_
  try dsimp only
  refine wpAny_bind (wpAny_field (s := { s with toks := s.toks + 1 + 1 }) ho hd (x := rawInt (i : Int)) rfl ?_)
  try dsimp only
  refine wpAny_bind (wpAny_setField (s := { s with toks := s.toks + 1 + 1 }) ho hd (by simp) ?_)
  first
  | refine wpAny_pure ⟨_, rfl, wpAny_pure (hQ _ _ ?_ (Heap.SameBut.update ..))⟩
  | refine wpAny_bind (wpAny_pure (wpAny_pure ⟨_, rfl, wpAny_pure (hQ _ _ ?_ (Heap.SameBut.update ..))⟩))
  exact ⟨_, Heap.get?_update_self _ ho (Obj.isFreed_of_fields (Obj.data_mapFields hd _)), (Obj.cls_mapFields ..).trans hc, by
    rw [Obj.data_mapFields hd]; simp⟩
theorem next_rs_end {it : Addr} {x : Str} {t : Tok} {Q : Option Value → Shared → Prop} (hh : A.handled = none) (hit : IsRs s.heap it x t (-1))
    (hQ : ∀ h', Heap.ExtBut it s.heap h' → Q none { s with heap := h' }) : wpAny (model prog w) A (pyNext (.ref it)) Q E s := by
  obtain ⟨o, ho, hc, hd⟩ := id hit
  unfold pyNext
  refine wpAny_bind (wpAny_attempt (wpAny_callSpecial?_slot (name := Str.ofString "__next__") hit.typeIs slot_rt_next
    (wpAny_call_entry slot_rt_next hit.typeIs entry_rt_next ?_ (args_rt_next _))))
  unfold Builtin.«reversed.__next__»
  refine wpAny_bind (wpAny_of_eq (a := (Value.ref it, [])) rfl ?_)
  try dsimp only
  refine wpAny_bind (wpAny_field ho hd (x := .str x t) rfl ?_)
  try dsimp only
  refine wpAny_bind (wpAny_field ho hd (x := rawInt (-1)) rfl ?_)
  show wpAny _ _ (if (-1 : Int) < 0 then _ else _) _ _ s
  rw [if_pos (by decide)]
  try dsimp only
  refine wpAny_bind (wpAny_rule ?_)
  refine wpAny_bind ?_
  wp_delta
  refine wpAny_bind (wpAny_setField ho hd (by simp) ?_)
  have ho2 := Heap.get?_update_self (Obj.mapFields (·.setIfInBounds 1 (rawInt (-1)))) ho (Obj.isFreed_of_fields (Obj.data_mapFields hd _))
  refine wpAny_setField (s := { s with heap := s.heap.update it (Obj.mapFields (·.setIfInBounds 1 (rawInt (-1)))) }) ho2 (Obj.data_mapFields hd _) (by simp) ?_
  try dsimp only
  first
  | show wpAny _ _ (newExc (.type "StopIteration") [] >>= _) _ _ _
  | (refine wpAny_bind ?_; show wpAny _ _ (newExc (.type "StopIteration") [] >>= _) _ _ _)
  | (refine wpAny_bind ?_; wp_delta; show wpAny _ _ (newExc (.type "StopIteration") [] >>= _) _ _ _)
  refine wpAny_bind ?_
  simp only [newExc, newTuple]
  refine wpAny_bind (wpAny_newObj_type ?_ (by size_fits))
  refine wpAny_bind (m := firstArgMember _ _) (wpAny_of_eq (a := Value.none) (by first | rfl | (simp only [firstArgMember]; rfl)) ?_)
  refine wpAny_newObj_type ?_ (by size_fits)
  simp only [raiseNew]
  refine wpAny_bind (wpAny_handled ?_)
  first | rw [show A.in1.handled = none from hh] | rw [hh]
  refine wpAny_bind (wpAny_pure (wpAny_throw ?_))
  refine wpAny_bind (wpAny_isInstance (T := "StopIteration") (b := true) ⟨_, Heap.get?_push_size _ rfl, rfl⟩ isSubtype_stop ?_)
  refine wpAny_pure (hQ _ ?_)
  refine ((?_ : Heap.ExtBut it s.heap _).push _).push _
  exact fun b ob hb e => (Heap.get?_update_other _ _ (Ne.symm hb)).trans ((Heap.get?_update_other _ _ (Ne.symm hb)).trans e)
theorem iter_rs {it : Addr} {x : Str} {t : Tok} {i : Int} {Q : Value → Shared → Prop} (hit : IsRs s.heap it x t i) (h : Q (.ref it) s) : wpAny (model prog w) A (pyIter (.ref it)) Q E s := by
  refine wpAny_pyIter_slot hit.typeIs slot_rt_iter (wpAny_call_entry slot_rt_iter hit.typeIs entry_rt_iter ?_ (args_rt_iter _))
  show wpAny _ _ (ret (.ref it)) _ _ s
  exact wpAny_pure ⟨_, rfl, "reversed", _, hit.typeIs, slot_rt_next.lookup, h⟩
end
def ItrS (x : Str) : It := ⟨fun i _ => i < x.length ∧ x.length ≤ sizeLine, fun i H v H' => H' = H ∧ ∃ c, x.cps[x.length - 1 - i]? = some c ∧ v = .str ⟨#[c]⟩, fun i _ => x.length ≤ i⟩
theorem turn_rs {P : Program} {w : World} {K : PySem.W.Frag} {tg : Expr} (it : Addr) (x : Str) (t : Tok) : Turn P w K tg (ItrS x) [it] it (fun i h => i ≤ x.length ∧ IsRs h it x t ((x.length : Int) - 1 - (i : Nat))) where
  mem := by simp
  obj := fun i h st b hb => by
    have e : b = it := by simpa using hb
    subst e
    obtain ⟨_, o, e, c, d⟩ := st
    exact ⟨o, e, fun v z => by rw [d] at z; cases z⟩
  keep := fun i h h' st k => ⟨st.1, st.2.at fun o e => k it (by simp) o e⟩
  item := by
    intro X hP hw hK hc i pins s σ H E I hf st hg
    subst hP hw hK
    obtain ⟨hin, hsz⟩ := hg
    obtain ⟨f0, f1, f2, f3, f4, f5⟩ := hf it (by simp)
    obtain ⟨_, hit⟩ := st
    have e1 : (x.length : Int) - 1 - ((i : Nat) : Int) = ((x.length - 1 - i : Nat) : Int) := by omega
    rw [e1] at hit
    have hx : x.cps[x.length - 1 - i]? = some (x.cps[x.length - 1 - i]'(show _ < x.length by omega)) := Array.getElem?_eq_getElem _
    refine next_rs_item hit hx hsz fun h' u st' sb => ?_
    have e2 : ((x.length - 1 - i : Nat) : Int) - 1 = (x.length : Int) - 1 - ((i + 1 : Nat) : Int) := by omega
    rw [e2] at st'
    have I1 : Inv X pins σ H { s with heap := h', toks := s.toks + 1 + 1 } := I.turned (t' := s.toks + 1 + 1) (fun b o hb e => (sb.2 b hb).trans e) f0 f1 f3 f4 f5
    obtain ⟨o, e, c, d⟩ := id st'
    exact ⟨_, rfl, go_of (s := { s with heap := h', toks := s.toks + 1 + 1 }) e c d (by decide) ⟨.str _, H, I1, ⟨_, rfl⟩, ⟨rfl, _, hx, rfl⟩, ⟨hin, st'⟩, fun b hb => (hf b hb).1⟩⟩
  done := by
    intro X hP hw hK hc i pins s σ H E I hf st hg
    subst hP hw hK
    obtain ⟨f0, f1, f2, f3, f4, f5⟩ := hf it (by simp)
    obtain ⟨hin, hit⟩ := st
    have hge : x.length ≤ i := hg
    have e1 : (x.length : Int) - 1 - ((i : Nat) : Int) = -1 := by omega
    rw [e1] at hit
    exact next_rs_end (I.ok.hd hc) hit fun h' eb => ⟨rfl, I.turned (t' := s.toks) (fun b o hb e => eb b o hb e) f0 f1 f3 f4 f5⟩
  self := fun A i s Q E st h => iter_rs st.2 h
def iRevS (te : TE) : TI := fun σ H R => te σ H fun v H1 => ∃ (x : Str), v = .str x ∧ x.length ≤ sizeLine ∧ R (ItrS x) H1
theorem pi_revS {X : Cx} {tg : Expr} {e : Expr} {te : TE} {p pos : Pos} (hg : Gl X "reversed") (hm : X.mg "reversed" = none) (he : PE X e te) (hs : starEach [e] X.env = (false, eval e X.env) :: starEach [] X.env := by rfl) : PI X tg (.Call (.Name "reversed" p) [e] [] pos) (iRevS te) := by
  refine ⟨fun pins s σ H R I h => ?_⟩
  refine Call_ (ld_blt I hg hm PyProof.Rows.boot_reversed (PyProof.Rows.callWith_type1 (args_cons (thn (he.run pins s σ H _ I h) fun u s1 ⟨v, H1, I1, r1, q1⟩ => args_nil ?_) hs) hs rfl))
  obtain ⟨x, ev, hz, q⟩ := q1
  subst ev
  obtain ⟨t, rfl⟩ := r1
  have hn := line63
  have e1 : (x.length : Int) - 1 = (x.length : Int) - 1 - ((0 : Nat) : Int) := by omega
  refine call_reversed_str (by omega) (iter_rs (x := x) (t := t) (i := (x.length : Int) - 1) ⟨_, Heap.get?_push_size _ rfl, rfl, rfl⟩ ?_)
  refine pi_one (tk := s1.toks + 1 + 1) I1 _ (turn_rs _ x t) ⟨Nat.zero_le _, ?_⟩ q
  rw [← e1]
  exact ⟨_, Heap.get?_push_size _ rfl, rfl, rfl⟩
end DLXR
namespace DL
open PySem PySem.Spec PyProof.Rows L2 DLXR
section
variable {X : Cx} {tb : Tb} {B : WX}
def iRevX (f : SE Dv) : SE (List PyData) := fun ρ π => (f ρ π).bind fun d π1 => match d with
  | .val (.str x) => if x.length ≤ 16777216 then .ok (signs x).reverse π1 else .bad
  | _ => .bad
theorem w_revS {F : Hp} {x : Str} (hz : x.length ≤ sizeLine) : IsWalk F (ItrS x) (signs x).reverse := by
  have hl : x.cps.toList.length = x.length := rfl
  have hl2 : (signs x).length = x.length := by unfold signs; rw [List.length_map]; rfl
  refine ⟨fun i H hi s => ?_, fun H s => ?_, fun i H v H' W π d y e2 s s2 p => ?_⟩
  · rw [List.length_reverse, hl2] at hi
    exact ⟨hi, hz⟩
  · show x.length ≤ (signs x).reverse.length
    rw [List.length_reverse, hl2]; exact Nat.le_refl _
  · obtain ⟨rfl, c, e, rfl⟩ := y
    have hi : i < x.length := by
      rcases Nat.lt_or_ge i x.length with h | h
      · exact h
      · rw [List.getElem?_eq_none (by rw [List.length_reverse, hl2]; exact h)] at e2; cases e2
    have e3 : d = .str ⟨#[c]⟩ := by
      rw [List.getElem?_reverse (by rw [hl2]; exact hi), hl2] at e2
      unfold signs at e2
      rw [List.getElem?_map, Array.getElem?_toList, e] at e2
      cases e2; rfl
    subst e3
    exact ⟨W, Step.refl _ _, p, s2, .str _⟩
theorem i_revX {tg e : Expr} {p pos : Pos} {f : SE Dv} (hm : X.mg "reversed" = none) (he : PE X e (tE (Cx.md X tb) B f)) (hg : Gl X "reversed" := by rfl) (hs : starEach [e] X.env = (false, eval e X.env) :: starEach [] X.env := by rfl) : PI X tg (.Call (.Name "reversed" p) [e] [] pos) (tI (Cx.md X tb) B (iRevX f)) := by
  refine ⟨fun pins s σ H R I ⟨W, ρ, π, st, p⟩ => ?_⟩
  unfold iRevX at p
  refine (pi_revS hg hm he hs).run pins s σ H R I ⟨W, ρ, π, st, ?_⟩
  cases q : f ρ π with
  | bad => rw [q] at p; exact p.elim
  | exn n π' => rw [q] at p; exact p
  | ok d π' =>
    rw [q] at p
    intro W1 H1 v s1 pn1 sm1 r1
    cases d with
    | pen => exact p.elim
    | err n => exact p.elim
    | ppr n => exact p.elim
    | dct _ => exact p.elim
    | fn _ => exact p.elim
    | scr ns => exact p.elim
    | val d =>
      cases d with
      | str x =>
        have p : PostI (Cx.md X tb) B W H σ R (if x.length ≤ 16777216 then .ok (signs x).reverse π' else .bad) := p
        split at p
        · rename_i hz
          cases rv_str r1
          exact ⟨x, rfl, line_le.mp hz, p W1 H1 _ s1 pn1 sm1 (w_revS (line_le.mp hz))⟩
        · exact p.elim
      | _ => exact p.elim
end
section
variable {ρ : List Sv} {π : Pn} {E : Str → Pn → Prop}
theorem w_irevX {f : SE Dv} {Q : List PyData → Pn → Prop} (h : wR (f ρ π) E fun d π => ∃ x : Str, d = .val (.str x) ∧ x.length ≤ 16777216 ∧ Q (signs x).reverse π) : wR (iRevX f ρ π) E Q := by
  refine wR_bind (wR_mono h ?_ fun _ _ h => h)
  rintro d π ⟨x, rfl, hz, q⟩
  show wR (if x.length ≤ 16777216 then .ok (signs x).reverse π else .bad) E Q
  rw [if_pos hz]; exact q
end
end DL

set_option maxRecDepth 100000
set_option maxHeartbeats 8000000
namespace DL
open PySem PySem.Spec PyProof.Rows L2

/-! ### dict(D), D a dict of the module: texts and ints -/
def entI (e : DictEntry) : Option (Str × Int) := match e.key, e.val with
  | .str x _, .int i _ => some (x, i)
  | _, _ => none
def szTab (es : List DictEntry) (kvs : List (Str × Int)) : Bool := decide (es.map entI = kvs.map some)
structure GSz (K : PySem.W.Frag) (w : World) (mg : Str → Option Value) (n : Str) (kvs : List (Str × Int)) : Prop where
  ex : ∃ (d : Addr) (es : Array DictEntry) (m : Nat), mg n = some (.ref d) ∧ K.lookup d = some ⟨.type "dict", none, .dict es m, #[]⟩ ∧ PySem.W.KeysLit w.params es.toList ∧ szTab es.toList kvs = true ∧ (d == sysModules) = false ∧ (kvs.map (·.1)).Nodup ∧ kvs.length ≤ sizeLine
def kvI (kvs : List (Str × Int)) : List (Key × V) := kvs.map fun p => (.inr p.1, .int p.2)
def dvI (kvs : List (Str × Int)) : List (Str × PyData) := kvs.map fun p => (p.1, .int p.2)
theorem dqkv_I {F : Hp} : ∀ (kvs : List (Str × Int)), DqKV F (kvI kvs) (dvI kvs)
  | [] => .nil
  | p :: r => .cons (.int p.2) (dqkv_I r)
theorem entI_shape {e : DictEntry} {x : Str} {i : Int} (h : entI e = some (x, i)) : ∃ t u, e.key = .str x t ∧ e.val = .int i u := by
  unfold entI at h
  split at h
  · rename_i a b c d h1 h2
    cases h; exact ⟨_, _, h1, h2⟩
  · cases h
theorem pairs_I {P : Program} {w : World} : ∀ (es : List DictEntry) (kvs : List (Str × Int)), es.map entI = kvs.map some → ∃ vs : List (Key × Value), Pairs (mixKind P w) es vs ∧ KV (kvI kvs) vs
  | [], [], _ => ⟨[], .nil, .nil⟩
  | [], _ :: _, h => by cases h
  | _ :: _, [], h => by cases h
  | e :: es, p :: kvs, h => by
    rw [List.map_cons, List.map_cons] at h
    have h1 := (List.cons.inj h).1
    have h2 := (List.cons.inj h).2
    obtain ⟨t, u, e1, e2⟩ := entI_shape h1
    obtain ⟨vs, a, b⟩ := pairs_I (P := P) (w := w) es kvs h2
    refine ⟨(.inr p.1, .int p.2 u) :: vs, .cons ?_ e2 a, .cons ⟨rfl, ⟨u, rfl⟩⟩ b⟩
    show keyIs (.inr p.1) e.key = true
    rw [e1]; exact keyIs_str p.1 t
section
variable {X : Cx} {tb : Tb} {B : WX}
theorem call_dictK {d : Addr} {es : Array DictEntry} {m : Nat} {kvs : List (Str × Int)} (hl : X.K.lookup d = some ⟨.type "dict", none, .dict es m, #[]⟩) (hk : PySem.W.KeysLit X.w.params es.toList) (ht : szTab es.toList kvs = true) (lo : (d == sysModules) = false) (nd : (kvs.map (·.1)).Nodup) (z : kvs.length ≤ sizeLine) :
    CallR X (.type "dict") (fun xs H Q => xs = [.ref d] ∧ ∀ p, H p = none → Q (.ref p) (upd H p (.dK (kvI kvs)))) := by
  intro pins s σ H xs us Q I r q
  obtain ⟨ex, q⟩ := q
  subst ex
  obtain ⟨u, eu, rx⟩ := vals1 r
  subst eu
  cases rx
  obtain ⟨vs, pr, rel⟩ := pairs_I (P := X.prog) (w := X.w) es.toList kvs (of_decide_eq_true ht)
  have zl : (kvI kvs).length ≤ sizeLine := by unfold kvI; rw [List.length_map]; exact z
  have ek : (kvI kvs).map (·.1) = vs.map (·.1) := rel.keys
  have dd : s.heap.DictOf (mixKind X.prog X.w) d vs := by
    refine ⟨_, es, m, I.kIn _ _ hl, ⟨rfl, rfl, rfl⟩, rfl, fun e he => ?_, pr, ?_⟩
    · obtain ⟨x, t, e1, e2⟩ := hk.all e (Array.mem_toList_iff.mpr he)
      refine ⟨.inr x, ?_, e2⟩
      show keyIs (.inr x) e.key = true
      rw [e1]; exact keyIs_str x t
    · rw [← ek]
      unfold kvI
      rw [List.map_map]
      have := List.Pairwise.map (R := fun a b : Str => a ≠ b) (S := fun a b : Key => a ≠ b) (Sum.inr) (fun a b h e => h (Sum.inr.inj e)) nd
      rw [List.map_map] at this
      exact this
  refine kt_call_dict lo dd (by rw [← rel.length]; exact zl) fun h' d' hs => ?_
  have hm : (s.heap.objs.size == sysModules) = false := beq_eq_false_iff_ne.mpr (Nat.ne_of_gt I.big)
  exact ⟨.ref s.heap.objs.size, upd H s.heap.objs.size (.dK (kvI kvs)), I.laid (t' := s.toks) (fun b u e => (hs.2 b (Nat.ne_of_lt (Heap.lt_size e))).trans (Heap.get?_push_of_some _ e)) (Nat.le_refl _)
    (show ObjOk X.prog X.w _ _ _ (.dK (kvI kvs)) from ⟨zl, hm, vs, rel, d'⟩), rfl, q _ (I.hok.fresh (Nat.le_refl _))⟩
def eDictG (kvs : List (Str × Int)) : SE Dv := fun _ π => .ok (.dct (dvI kvs)) π
theorem e_dictG {n : Str} {p p2 pos : Pos} {kvs : List (Str × Int)} (G : GSz X.K X.w X.mg n kvs) (hm : X.mg "dict" = none) (hg : Gl X "dict" := by rfl) (hgn : Gl X n := by rfl) (hd : (n == ("__debug__" : Str)) = false := by decide)
    (hs : starEach [.Name n p2] X.env = (false, eval (.Name n p2) X.env) :: starEach [] X.env := by rfl) (hpl : (backTo pos (starEach [] X.env)).any (·.1) = false := by rfl) :
    PE X (.Call (.Name "dict" p) [.Name n p2] [] pos) (tE (Cx.md X tb) B (eDictG kvs)) := by
  obtain ⟨d, es, m, hn, hl, hk, ht, lo, nd, z⟩ := G.ex
  refine PE.weak (pe_callTy (call_dictK hl hk ht lo nd z) hg hm (by decide +kernel) (pa_cons (pe_glob (v := .ref d) hgn hn rfl hd) pa_nil hs) (by decide) (by decide) hs hpl) ?_
  rintro σ H Q ⟨W, ρ, π, st, pp⟩
  refine ⟨rfl, fun a na => ?_⟩
  obtain ⟨s2, pn2, sm2⟩ := fresh (o := .dK (kvI kvs)) st.same st.pen na
  have z2 : (dvI kvs).length ≤ sizeLine := by unfold dvI; rw [List.length_map]; exact z
  exact pp _ _ _ s2 pn2 sm2 (.dct upd_same z2 ((dqkv_I kvs)))

/-! ### k in d, d[k]: d a dict of texts -/
theorem dqkv_val {F : Hp} {vs : List (Key × V)} {ds : List (Str × PyData)} (r : DqKV F vs ds) (k : Str) : (valV vs (.inr k)).isSome = (ds.lookup k).isSome ∧ ∀ d, ds.lookup k = some d → ∃ v, valV vs (.inr k) = some v ∧ Dq F v d := by
  induction r with
  | nil => exact ⟨rfl, fun d h => by cases h⟩
  | @cons k' v d vs ds a t ih =>
    by_cases h : k' = k
    · subst h
      rw [valV_pos (p := (Sum.inr k', v)) rfl, List.lookup_cons, beq_self_eq_true]
      exact ⟨rfl, fun d h => by cases h; exact ⟨v, rfl, a⟩⟩
    · rw [valV_neg (p := (Sum.inr k', v)) (fun e => h (Sum.inr.inj e)), List.lookup_cons, beq_false_of_ne (Ne.symm h)]
      exact ih
def dInC : Dv → Dv → Option Dv
  | .val (.str x), .dct kvs => some (.val (.bool (kvs.lookup x).isSome))
  | _, _ => none
def dIdxC : Dv → Dv → Option Dv
  | .dct kvs, .val (.str x) => (kvs.lookup x).map Dv.val
  | _, _ => none
theorem o_inC (hu : X.A.units + 64 < cLine) : OpR X (compareOp .In) (rD (Cx.md X tb) dInC) := by
  rintro pins s σ H x y v u Q I rx ry ⟨W, d, e, z, sm, rd, re, hz, q⟩
  unfold dInC at hz
  split at hz
  · rename_i t kvs
    cases hz
    cases rv_str rd
    cases re with
    | @dct a vs _ e1 e2 e3 =>
      cases ry
      have g : DGet H a (.str t) (valV vs (.inr t)) := DGet.k (k := .inr t) (sm _ _ e1)
      refine d_in (by omega) I g rx fun s' I' => ?_
      rw [(dqkv_val e3 t).1]
      exact ⟨.bl _, H, I', rfl, stay q sm (.val (.bl _))⟩
  · cases hz
theorem e_idxC {a b : Expr} {pos : Pos} {f g : SE Dv} (hu : X.A.units + 64 < cLine) (ha : PE X a (tE (Cx.md X tb) B f)) (hb : PE X b (tE (Cx.md X tb) B g)) (hs : NoSl b := by intro _ _; rfl) : PE X (.Subscript a b pos) (tE (Cx.md X tb) B (lift2 dIdxC f g)) := by
  refine PE.weak (pe_dget (by omega) ha hb hs) ?_
  rintro σ H Q ⟨W, ρ, π, st, p⟩
  refine ⟨W, ρ, π, st, p.bind fun d π1 W1 H1 v s1 pn1 sm1 r1 p1 => ⟨W1, ρ, π1, st.step s1 pn1 sm1, p1.bind fun e π2 W2 H2 u s2 pn2 sm2 r2 p2 => ?_⟩⟩
  cases q : dIdxC d e with
  | none => simp only [q] at p2; exact p2.elim
  | some z =>
    simp only [q] at p2
    unfold dIdxC at q
    split at q
    · rename_i kvs t
      cases rv_str r2
      cases r1 with
      | @dct a vs _ e1 e2 e3 =>
        cases hk : kvs.lookup t with
        | none => rw [hk] at q; cases q
        | some y =>
          rw [hk] at q; cases q
          obtain ⟨v, hv, rv⟩ := (dqkv_val e3 t).2 y hk
          refine ⟨a, v, rfl, ?_, p2.now pn2 sm2 (.val (rv.mono s2.sub))⟩
          have g : DGet H2 a (.str t) (valV vs (.inr t)) := DGet.k (k := .inr t) (sm2 _ _ (s2.sub _ _ e1))
          rw [hv] at g
          exact g
    · cases q

/-! ### a dict of the module that holds defs -/
structure GFnD (K : PySem.W.Frag) (w : World) (mg : Str → Option Value) (n : Str) (kvs : List (Str × Str)) : Prop where
  ex : ∃ d, mg n = some (.ref d) ∧ ∀ k v, kvs.lookup k = some v → ∃ f, mg v = some (.ref f) ∧ KDct K w d k (.ref f)
theorem GFnD.mk3 {K : PySem.W.Frag} {w : World} {mg : Str → Option Value} {n : Str} {d : Addr} {es : Array DictEntry} {m : Nat} (hm : mg n = some (.ref d)) (hl : K.lookup d = some ⟨.type "dict", none, .dict es m, #[]⟩) (hk : PySem.W.KeysLit w.params es.toList) {kvs : List (Str × Str)}
    (h : ∀ kv ∈ kvs, ∃ f, mg kv.2 = some (.ref f) ∧ PySem.W.nsIn K d kv.1 = some (some (.ref f))) : GFnD K w mg n kvs := by
  refine ⟨d, hm, fun k v e => ?_⟩
  have mem : ∀ {l : List (Str × Str)}, l.lookup k = some v → (k, v) ∈ l := by
    intro l
    induction l with
    | nil => intro e; cases e
    | cons p l ih =>
      intro e
      obtain ⟨a, b⟩ := p
      rw [List.lookup_cons] at e
      cases q : k == a with
      | true => rw [q] at e; cases e; rw [beq_iff_eq.mp q]; exact List.mem_cons_self
      | false => rw [q] at e; exact List.mem_cons_of_mem _ (ih e)
  obtain ⟨f, hf, ht⟩ := h _ (mem e)
  exact ⟨f, hf, es, m, _, hl, hk, ht, rfl⟩
def eGfn (kvs : List (Str × Str)) (f : SE Dv) : SE Dv := fun ρ π => (f ρ π).bind fun d π1 => match d with
  | .val (.str x) => (match kvs.lookup x with
    | some v => .ok (.fn v) π1
    | none => .bad)
  | _ => .bad
theorem e_gfn {n : Str} {kvs : List (Str × Str)} {e : Expr} {p pos : Pos} {f : SE Dv} (D : GFnD X.K X.w X.mg n kvs) (he : PE X e (tE (Cx.md X tb) B f)) (hg : Gl X n := by rfl) (hd : (n == ("__debug__" : Str)) = false := by decide) (hs : PlainIx e := by exact fun _ _ => rfl) :
    PE X (.Subscript (.Name n p) e pos) (tE (Cx.md X tb) B (eGfn kvs f)) := by
  obtain ⟨d, hm, hk⟩ := D.ex
  refine PE.weak (pe_ix ix_kdict (pe_glob (v := .ref d) hg hm rfl hd) he hs) ?_
  rintro σ H Q ⟨W, ρ, π, st, pp⟩
  refine ⟨W, ρ, π, st, pp.bind fun x π1 W1 H1 v s1 pn1 sm1 r1 p1 => ?_⟩
  cases r1 with
  | pen _ => exact p1.elim
  | scr _ _ => exact p1.elim
  | err _ _ => exact p1.elim
  | dct _ _ _ => exact p1.elim
  | fn _ => exact p1.elim
  | val r => cases r with
    | str z =>
      cases q : kvs.lookup z with
      | none => simp only [q] at p1; exact p1.elim
      | some y =>
        simp only [q] at p1
        obtain ⟨g, hg, hd⟩ := hk z y q
        exact ⟨d, z, .ref g, rfl, rfl, hd, p1.now pn1 sm1 (.fn hg)⟩
    | non => exact p1.elim
    | bl _ => exact p1.elim
    | int _ => exact p1.elim
    | lst _ _ _ => exact p1.elim
    | tup _ _ _ => exact p1.elim

/-! ### a call of a def that a slot holds -/
def eCallV (i : Nat) (tab : List (Str × Mu)) (g : SE (List Dv)) : SE Dv := fun ρ π => match ρ[i]? with
  | some (.val (.fn n)) => (match tab.lookup n with
    | some μ => (g ρ π).bind fun ds π1 => μ ds π1
    | none => .bad)
  | _ => .bad
def CallTab (P : Program) (w : World) (K : PySem.W.Frag) (mg : Str → Option Value) (base : Heap) (tb : Tb) (n m : Nat) (tab : List (Str × Mu)) : Prop := ∀ y μ, tab.lookup y = some μ → ∃ ps k, k ≤ n ∧ ps.length = m ∧ Def P w K mg base tb k y ps μ
theorem ct_nil {P : Program} {w : World} {K : PySem.W.Frag} {mg : Str → Option Value} {base : Heap} {n m : Nat} : CallTab P w K mg base tb n m [] := fun _ _ e => by cases e
theorem ct_cons {P : Program} {w : World} {K : PySem.W.Frag} {mg : Str → Option Value} {base : Heap} {n m k : Nat} {y : Str} {ps : List Str} {μ : Mu} {tab : List (Str × Mu)} (D : Def P w K mg base tb k y ps μ) (hp : ps.length = m) (hk : k ≤ n) (r : CallTab P w K mg base tb n m tab) : CallTab P w K mg base tb n m ((y, μ) :: tab) := fun z ν e => by
  rw [List.lookup_cons] at e
  cases q : z == y with
  | true => rw [q] at e; cases e; rw [beq_iff_eq.mp q]; exact ⟨ps, k, hk, hp, D⟩
  | false => rw [q] at e; exact r z ν e
theorem e_callV {n i m : Nat} {x : Str} {p pos : Pos} {e : Expr} {es : List Expr} {g : SE (List Dv)} {tab : List (Str × Mu)} (D : CallTab X.prog X.w X.K X.mg X.base tb n m tab) (hr : Room n X.A) (gd : X.A.guards = some []) (tk : Takes X B)
    (ha : PA X (e :: es) (tA (Cx.md X tb) B g)) (hln : ∀ ρ π ds π', g ρ π = .ok ds π' → ds.length = m) (hN : X.N[i]? = some x := by rfl) (hv : Vis X.env.scope x := by first | exact Or.inl rfl | exact Or.inr rfl)
    (hdb : (x == ("__debug__" : Str)) = false := by decide) (hcd : (x == ("__classdict__" : Str)) = false := by decide) (he : starEach (e :: es) X.env = (false, eval e X.env) :: starEach es X.env := by rfl)
    (hpl : (backTo pos (starEach es X.env)).any (·.1) = false := by rfl) : PE X (.Call (.Name x p) (e :: es) [] pos) (tE (Cx.md X tb) B (eCallV i tab g)) := by
  refine ⟨fun pins s σ H Q I ⟨W, ρ, π, st, q⟩ => ?_⟩
  unfold eCallV at q
  cases hs : ρ[i]? with
  | none => rw [hs] at q; exact q.elim
  | some sv =>
    rw [hs] at q
    cases sv with
    | emp => exact q.elim
    | own _ => exact q.elim
    | val dv =>
      cases dv with
      | val _ => exact q.elim
      | pen => exact q.elim
      | scr _ => exact q.elim
      | err _ => exact q.elim
      | ppr _ => exact q.elim
      | dct _ => exact q.elim
      | fn y =>
        simp only at q
        cases ht : tab.lookup y with
        | none => rw [ht] at q; exact q.elim
        | some μ =>
          rw [ht] at q
          simp only at q
          obtain ⟨ps, k, hk, hps, DD⟩ := D y μ ht
          obtain ⟨f, fd, F, hm, hkp, hb⟩ := DD.ex
          have F := F.mono hk
          obtain ⟨o, ho, hsl⟩ := st.sl i _ hs
          cases hsl with
          | val rv =>
            cases rv with
            | @fn f' _ hm' =>
              have hm' : X.mg y = some (.ref f') := hm'
              rw [hm] at hm'
              cases hm'
              refine wpAny_Call_Name_kw (thn ((pe_var (pos := p) hN hv hdb hcd).run pins s σ H (fun v H1 => v = .ref f ∧ H1 = H) I ⟨.ref f, ho, rfl, rfl⟩) fun u s1 ⟨v, H1, I1, r1, q1⟩ => ?_)
              obtain ⟨rfl, rfl⟩ := q1
              cases r1
              refine PySem.W.callWith_K (h₀ := X.base) I.ok.mod.kin hkp ?_ he hpl
              have key : tA (Cx.md X tb) B g σ H1 (fun vs H2 => ∃ W1 ds π1, W1.tb = tb ∧ Same W1.F H2 ∧ PenOk W1 H2 π1 ∧ RvL (Cx.md X tb) W1 vs ds ∧ ds.length = ps.length ∧ Post (Cx.md X tb) (Rv (Cx.md X tb)) B W1 H2 σ Q (μ ds π1)) := by
                refine ⟨W, ρ, π, st, ?_⟩
                cases z : g ρ π with
                | bad => rw [z] at q; exact q
                | exn n π' => rw [z] at q; exact q
                | ok ds π1 =>
                  rw [z] at q
                  exact fun W1 H1 vs s1 pn1 sm1 r1 => ⟨W1, ds, π1, s1.tb.trans st.tbe, sm1, pn1, r1, (hln _ _ _ _ z).trans hps.symm, Post.step (r := μ ds π1) q s1⟩
              refine thn (ha.run pos pins s1 σ H1 _ I1 key) fun us s2 ⟨vs, H2, I2, r, W1, ds, π1, tt1, sm1, pn1, r1, hl1, q1⟩ => ⟨I2.kIn, ?_⟩
              have hl2 : us.length = ps.length := by rw [← r.length, r1.length, hl1]
              have hb' : BindsTo s2 fd ⟨us, []⟩ (ps.zip us) := by
                have := hb s2 us I2.kIn (by rw [List.append_nil]; exact hl2)
                rwa [List.append_nil] at this
              refine wpAny_call (codeAny_mono (F.run X.A X.stack s2 H2 ⟨us, []⟩ us vs W1 ds π1 Q (WE B σ) hr gd I2.env0 hb' r r1 hl1 tt1 sm1 pn1 (q1.sig fun c d H h => h)) fun r s' hq => ?_)
              cases r with
              | error e => exact passAt tk σ pins H2 s2 e s' I2 hq
              | ok fl =>
                cases fl with
                | ret u => exact I2.after hq
                | next => exact False.elim hq
                | brk => exact False.elim hq
                | cont => exact False.elim hq
end
section
variable {ρ : List Sv} {π : Pn} {E : Str → Pn → Prop}
theorem w_dictG {kvs : List (Str × Int)} {Q : Dv → Pn → Prop} (h : Q (.dct (dvI kvs)) π) : wR (eDictG kvs ρ π) E Q := h
theorem w_gfn {kvs : List (Str × Str)} {f : SE Dv} {Q : Dv → Pn → Prop} (h : wR (f ρ π) E fun d π => ∃ x v, d = .val (.str x) ∧ kvs.lookup x = some v ∧ Q (.fn v) π) : wR (eGfn kvs f ρ π) E Q := by
  refine wR_bind (wR_mono h ?_ fun _ _ h => h)
  rintro d π ⟨x, v, rfl, e, q⟩
  simp only [e]
  exact q
theorem w_callV {i : Nat} {tab : List (Str × Mu)} {g : SE (List Dv)} {n : Str} {μ : Mu} {Q : Dv → Pn → Prop} (e : ρ[i]? = some (.val (.fn n))) (ht : tab.lookup n = some μ) (h : wR (g ρ π) E fun ds π => wR (μ ds π) E Q) : wR (eCallV i tab g ρ π) E Q := by
  unfold eCallV
  rw [e]
  simp only [ht]
  exact wR_bind h
end
end DL

set_option maxRecDepth 100000
set_option maxHeartbeats 8000000
namespace DL
open PySem PySem.Spec PyProof.Rows L2
/-! ### a tuple again and again -/
def dMulT : Dv → Dv → Option Dv
  | .val (.tuple xs), .val (.int n) => if xs ≠ [] ∧ 2 ≤ n ∧ n ≤ 1000 ∧ xs.length ≤ 1000 then some (.val (.tuple (List.replicate n.toNat xs).flatten)) else none
  | a, b => dMul a b
section
variable {X : Cx} {tb : Tb}
theorem o_mulT : OpR X (binaryOp .Mult) (rD (Cx.md X tb) dMulT) := by
  intro pins s σ H x y v u Q I rx ry h
  obtain ⟨W, d, e, z, sm, rd, re, hz, q⟩ := h
  unfold dMulT at hz
  split at hz
  · split at hz
    · rename_i ds kk hl
      cases hz
      obtain ⟨h0, h1, h2, h3⟩ := hl
      obtain ⟨a, xs, rfl, ea, za, ra⟩ := rv_tup rd
      cases rv_int re
      have lx := ra.length
      have hne : xs ≠ [] := fun e => h0 (List.eq_nil_of_length_eq_zero (by rw [← lx, e]; rfl))
      have flen : (List.replicate kk.toNat xs).flatten.length ≤ sizeLine := by
        rw [PyProof.Rows.lm_len_rep_flat, sizeLine_eq]
        have a1 : kk.toNat * xs.length ≤ 1000 * 1000 := Nat.mul_le_mul (by omega) (by omega)
        omega
      refine op_repZ pins s σ H _ _ v u Q I rx ry ⟨a, _, xs, rfl, rfl, SqT_frz ea sm, hne, h1, h2, by omega, fun p o n po => grow q sm n ?_⟩
      have g := grows (o := .frz o (.tup (List.replicate kk.toNat xs).flatten)) (sm.free n)
      refine .val (.tup upd_same po flen ?_)
      have rep : ∀ k : Nat, DqAll (upd W.F p (.frz o (.tup (List.replicate kk.toNat xs).flatten))) (List.replicate k xs).flatten (List.replicate k ds).flatten := fun k => by
        induction k with
        | zero => exact .nil
        | succ k ih => rw [List.replicate_succ, List.replicate_succ, List.flatten_cons, List.flatten_cons]; exact (ra.mono g).append ih
      exact rep _
    · cases hz
  · exact o_mul pins s σ H x y v u Q I rx ry ⟨W, d, e, z, sm, rd, re, hz, q⟩
end
theorem o_w_mulT {xs : List PyData} {n : Int} {Q : Dv → Prop} (h : xs ≠ [] ∧ 2 ≤ n ∧ n ≤ 1000 ∧ xs.length ≤ 1000) (q : Q (.val (.tuple (List.replicate n.toNat xs).flatten))) : wO (dMulT (.val (.tuple xs)) (.val (.int n))) Q := by
  have e : dMulT (.val (.tuple xs)) (.val (.int n)) = some (.val (.tuple (List.replicate n.toNat xs).flatten)) := if_pos h
  rw [e]; exact q
end DL

set_option maxRecDepth 100000
set_option maxHeartbeats 8000000
namespace DL
open PySem PySem.Spec PyProof.Rows L2
/-! ### a method of a tuple whose object is plain -/
def plZ (x : V) (H : Hp) : Prop := ∃ p ob xs, x = .ref p ∧ H p = some (.frz ob (.tup xs)) ∧ PlT ob
section
variable {X : Cx} {o e : Expr} {es : List Expr} {to : TE} {t : TA} {name : Str} {apos cpos : Pos} {id : String} {r : V → List V → Hp → VK → Prop}
theorem pe_bmZ (pa : PlainAttrs "tuple") (slot : Slot "tuple" name id) (hty : typeOf (.builtin id) = pure (.type "method_descriptor")) (hm : MtR X id r) (ho : PE X o to) (ha : PA X (e :: es) t)
    (hbase : attributeBase o name X.env (eval o X.env) = eval o X.env := by rfl)
    (hfew : ((backTo cpos (starEach (e :: es) X.env)).all (fun x => !x.1) && (backToKw cpos (keywordEach [] X.env)).all (fun x => x.1.isSome)
      && decide ((e :: es).length + ([] : List Keyword).length + (if ([] : List Keyword).isEmpty then 0 else 1) < 30)) = true := by rfl)
    (hline : (apos.endLine == cpos.line) = true := by rfl) (hs : starEach (e :: es) X.env = (false, eval e X.env) :: starEach es X.env := by rfl) (hplain : (backTo cpos (starEach es X.env)).any (·.1) = false := by rfl) :
    PE X (.Call (.Attribute o name apos) (e :: es) [] cpos) (fun σ H Q => to σ H fun x H1 => plZ x H1 ∧ t σ H1 fun xs H2 => r x xs H2 Q) := by
  refine ⟨fun pins s σ H Q I h => ?_⟩
  refine wpAny_Call_method_late hbase hfew hline rfl (thn (ho.run pins s σ H _ I h) fun v s1 ⟨x, H1, I1, r1, ⟨p, ob, xs, ex, hq, hp⟩, q1⟩ => ?_)
  subst ex
  have r2 := r1
  cases r2
  obtain ⟨g, _⟩ := I1.hok p _ hq
  refine ⟨"tuple", id, pa, slot, hty, ⟨ob, g, hp.1⟩, fun a e => by cases e; exact ⟨ob, g, hp.2⟩, ?_⟩
  have hA := ha.run cpos pins s1 σ H1 _ I1 q1
  rw [hs] at hA ⊢
  refine Calls.callWith_builtin (by show (false || (backTo cpos (starEach es X.env)).any (·.1)) = false; rw [hplain] <;> rfl) (Calls.evalArgs_plain ?_)
  exact thn hA fun us s2 ⟨vs, H2, I2, r2, q2⟩ => hm pins s2 σ H2 _ vs _ us Q I2 r1 r2 q2
end
section
variable {X : Cx} {tb : Tb} {B : WX}
def liftMT (op : Dv → List Dv → Option Dv) (f : SE Dv) (g : SE (List Dv)) : SE Dv := fun ρ π => (f ρ π).bind fun d π1 => match d with
  | .val (.tuple x) => (g ρ π1).bind fun ds π2 => (match op (.val (.tuple x)) ds with
    | some z => .ok z π2
    | none => .bad)
  | _ => .bad
theorem e_methT {o e : Expr} {es : List Expr} {name : Str} {apos cpos : Pos} {id : String} {op : Dv → List Dv → Option Dv} {f : SE Dv} {g : SE (List Dv)} (pa : PlainAttrs "tuple") (slot : Slot "tuple" name id) (hty : typeOf (.builtin id) = pure (.type "method_descriptor")) (hm : MtR X id (rM (Cx.md X tb) op)) (ho : PE X o (tE (Cx.md X tb) B f)) (ha : PA X (e :: es) (tA (Cx.md X tb) B g))
    (hbase : attributeBase o name X.env (eval o X.env) = eval o X.env := by rfl)
    (hfew : ((backTo cpos (starEach (e :: es) X.env)).all (fun x => !x.1) && (backToKw cpos (keywordEach [] X.env)).all (fun x => x.1.isSome) && decide ((e :: es).length + ([] : List Keyword).length + (if ([] : List Keyword).isEmpty then 0 else 1) < 30)) = true := by rfl)
    (hline : (apos.endLine == cpos.line) = true := by rfl) (hs : starEach (e :: es) X.env = (false, eval e X.env) :: starEach es X.env := by rfl) (hplain : (backTo cpos (starEach es X.env)).any (·.1) = false := by rfl) :
    PE X (.Call (.Attribute o name apos) (e :: es) [] cpos) (tE (Cx.md X tb) B (liftMT op f g)) := by
  refine PE.weak (pe_bmZ pa slot hty hm ho ha hbase hfew hline hs hplain) ?_
  rintro σ H Q ⟨W, ρ, π, st, p⟩
  refine ⟨W, ρ, π, st, p.bind fun d π1 W1 H1 v s1 pn1 sm1 r1 p1 => ?_⟩
  cases r1 with
  | pen _ => exact p1.elim
  | scr _ _ => exact p1.elim
  | err _ _ => exact p1.elim
  | dct _ _ _ => exact p1.elim
  | fn _ => exact p1.elim
  | val r => cases r with
    | non => exact p1.elim
    | bl _ => exact p1.elim
    | int _ => exact p1.elim
    | str _ => exact p1.elim
    | lst _ _ _ => exact p1.elim
    | @tup a ob xs ds ea po za ra =>
      refine ⟨⟨a, ob, xs, rfl, sm1 _ _ ea, po⟩, W1, ρ, π1, st.step s1 pn1 sm1, p1.bind fun es' π2 W2 H2 vs s2 pn2 sm2 r2 p2 => ?_⟩
      cases q : op (.val (.tuple ds)) es' with
      | none => simp only [q] at p2; exact p2.elim
      | some z =>
        simp only [q] at p2
        exact ⟨W2, _, es', z, sm2, .val (.tup (s2.sub _ _ ea) po za (ra.mono s2.sub)), r2, q, fun v' H' W' s4 pn4 sm4 r4 => p2 W' H' v' s4 (pn4 π2 pn2) sm4 r4⟩
def mTIndex : Dv → List Dv → Option Dv
  | .val (.tuple ds), [.val (.int k)] => (intsOf ds).bind fun ns => if k ∈ ns then some (.val (.int (ns.idxOf k : Nat))) else none
  | _, _ => none
theorem m_tindex : MtR X "tuple.index" (rM (Cx.md X tb) mTIndex) := by
  rintro pins s σ H x xs v us Q I rx rs ⟨W, d, ds, z, sm, rd, rds, hz, q⟩
  unfold mTIndex at hz
  split at hz
  · rename_i l k
    obtain ⟨w, rfl, r1⟩ := rvl1 rds
    obtain ⟨a, ys, rfl, ea, za, ra⟩ := rv_tup rd
    cases rv_int r1
    cases hn : intsOf l with
    | none => rw [hn] at hz; cases hz
    | some ns =>
      rw [hn] at hz
      have hz : (if k ∈ ns then some (Dv.val (.int (ns.idxOf k : Nat))) else none) = some z := hz
      split at hz
      · rename_i hk
        cases hz
        have e1 := ints_v ra hn
        subst e1
        obtain ⟨u, rfl, ru⟩ := vals1 rs
        cases rx
        obtain ⟨t, rfl⟩ := ru
        obtain ⟨its, r3, p1, _⟩ := I.tuple (SqT_frz ea sm)
        exact PySem.SeqAt.tuple_index_ints (vs := its) p1 (by simpa using intsAre_of r3) hk ⟨.int _, H, I.tok _, ⟨_, rfl⟩, stay q sm (.val (.int _))⟩
      · cases hz
  · cases hz
end
end DL

set_option maxRecDepth 100000
set_option maxHeartbeats 8000000
namespace DL
open PySem PySem.Spec PyProof.Rows L2
/-! ### a list from its end -/
section
variable {X : Cx} {tb : Tb} {B : WX}
def eRevL (f : SE Dv) : SE Dv := fun ρ π => (f ρ π).bind fun d π1 => match d with
  | .val (.list ds) => .ok (.val (.list ds.reverse)) π1
  | _ => .bad
theorem DqAll.reverse {F : Hp} : ∀ {vs : List V} {ds : List PyData}, DqAll F vs ds → DqAll F vs.reverse ds.reverse
  | _, _, .nil => .nil
  | _, _, .cons r t => by rw [List.reverse_cons, List.reverse_cons]; exact t.reverse.append (.cons r .nil)
theorem e_revL {e : Expr} {k : Nat} {p1 p2 p3 pos : Pos} {f : SE Dv} (he : PE X e (tE (Cx.md X tb) B f)) : PE X (.Subscript e (.Slice none none (some (.UnaryOp .USub (.Constant (.int 1) k p1) p2)) p3) pos) (tE (Cx.md X tb) B (eRevL f)) := by
  refine PE.weak (pe_revL he) ?_
  rintro σ H Q ⟨W, ρ, π, st, p⟩
  refine ⟨W, ρ, π, st, p.bind fun d π1 W1 H1 v s1 pn1 sm1 r1 p1 => ?_⟩
  cases r1 with
  | pen _ => exact p1.elim
  | scr _ _ => exact p1.elim
  | err _ _ => exact p1.elim
  | dct _ _ _ => exact p1.elim
  | fn _ => exact p1.elim
  | val r => cases r with
    | non => exact p1.elim
    | bl _ => exact p1.elim
    | int _ => exact p1.elim
    | str _ => exact p1.elim
    | tup _ _ _ _ => exact p1.elim
    | @lst a xs ds ea za ra =>
      refine ⟨a, xs, rfl, SqL.of (sm1 _ _ ea), fun p na => ?_⟩
      obtain ⟨s2, pn2, sm2⟩ := fresh (o := .lst xs.reverse) sm1 pn1 na
      refine p1 _ _ _ s2 pn2 sm2 (.val (.lst upd_same (by rw [List.length_reverse]; exact za) (ra.mono s2.sub).reverse))
theorem w_revL {f : SE Dv} {ρ : List Sv} {π : Pn} {E : Str → Pn → Prop} {Q : Dv → Pn → Prop} (h : wR (f ρ π) E fun d π => ∃ x, d = .val (.list x) ∧ Q (.val (.list x.reverse)) π) : wR (eRevL f ρ π) E Q := by
  refine wR_bind (wR_mono h ?_ fun _ _ x => x)
  rintro _ π ⟨x, rfl, h⟩; exact h
/-! ### the words for a tuple's index -/
theorem w_liftMT {op : Dv → List Dv → Option Dv} {f : SE Dv} {g : SE (List Dv)} {ρ : List Sv} {π : Pn} {E : Str → Pn → Prop} {Q : Dv → Pn → Prop} (h : wR (f ρ π) E fun d π => ∃ x, d = .val (.tuple x) ∧ wR (g ρ π) E fun ds π => wO (op d ds) fun z => Q z π) : wR (liftMT op f g ρ π) E Q := by
  refine wR_bind (wR_mono h ?_ fun _ _ x => x)
  rintro _ π ⟨x, rfl, h⟩
  exact wR_bind (wR_mono h (fun ds π h => (by cases q0 : (op (.val (.tuple x)) ds) with | none => (rw [q0] at h; exact h.elim) | some z0 => (rw [q0] at h; simp only [q0]; exact h))) fun _ _ x => x)
theorem o_w_tindex {ns : List Int} {k : Int} {Q : Dv → Prop} (hk : k ∈ ns) (h : Q (.val (.int (ns.idxOf k : Nat)))) : wO (mTIndex (.val (.tuple (ns.map PyData.int))) [.val (.int k)]) Q := by
  show wO ((intsOf (ns.map PyData.int)).bind fun ns => if k ∈ ns then some (.val (.int (ns.idxOf k : Nat))) else none) Q
  rw [intsOf_map]
  show wO (if k ∈ ns then _ else none) Q
  rw [if_pos hk]; exact h
end
end DL

set_option maxRecDepth 100000
set_option maxHeartbeats 8000000
/-! ### sum, min and max of a tuple of ints -/
namespace DL
open PySem PySem.Spec PyProof.Rows L2
section
variable {prog : Program} {w : World} {A : Around} {E : Value → Shared → Prop} {s : Shared} {l : Addr} {xs : Array (Int × Tok)}
theorem iter_intTup {Q : Value → Shared → Prop} (hl : s.heap.IsTuple l (intItems xs))
    (h : ∀ s₂ : Shared, s₂ = { s with heap := s.heap.push { cls := .type "tuple_iterator", data := .fields #[.ref l, .int 0 0] } } →
      (s₂.heap.IsTupleIter s.heap.objs.size l 0 ∧ s₂.heap.IsTuple l (intItems xs)) → (∀ b ∈ [s.heap.objs.size, l], b < s₂.heap.objs.size) → l ≠ s.heap.objs.size → Q (.ref s.heap.objs.size) s₂) :
    wpAny (model prog w) A (pyIter (.ref l)) Q E s := by
  have hlt : l < s.heap.objs.size := by obtain ⟨_, e, _⟩ := hl; exact Heap.lt_size e
  refine wpAny_pyIter_tuple hl (h _ rfl ⟨⟨_, Heap.get?_push_size _ rfl, rfl, rfl⟩, hl.push _⟩ (fun b hb => ?_) (Nat.ne_of_lt hlt))
  show b < (s.heap.push _).objs.size
  rw [Heap.size_push]
  rcases List.mem_cons.mp hb with rfl | hb
  · exact Nat.lt_succ_self _
  · rcases List.mem_cons.mp hb with rfl | hb
    · exact Nat.lt_succ_of_lt hlt
    · cases hb
theorem old_keptT {h' : Heap} (hk : ∀ b o, b ∉ [s.heap.objs.size] → (s.heap.push { cls := .type "tuple_iterator", data := .fields #[.ref l, .int 0 0] }).get? b = some o → h'.get? b = some o) : ∀ b o, s.heap.get? b = some o → h'.get? b = some o := fun b o e =>
  hk b o (fun hm => by
    have := Heap.lt_size e
    rcases List.mem_cons.mp hm with rfl | hm
    · exact Nat.lt_irrefl _ this
    · cases hm) (Heap.get?_push_of_some _ e)
theorem sum_intTup {Q : Value → Shared → Prop} (hh : A.handled = none) (hl : s.heap.IsTuple l (intItems xs))
    (h : ∀ h' tk t', (∀ b o, s.heap.get? b = some o → h'.get? b = some o) → Q (.int (preSum (numAt xs) xs.size) t') { s with heap := h', toks := tk }) :
    wpAny (model prog w) A (call (.builtin "sum") [.ref l]) Q E s := by
  refine call_sum_walkG (iter_intTup hl fun s₂ e st hfp hlI => ?_)
  subst e
  refine ⟨_, _, _, _, _, _, numAt xs, rfl, Walks.tuple (A := A.in1) hh _ l hlI (intItems xs), st, hfp, (fun _ _ => intItems_at), fun h' tk t' hk => ?_⟩
  have := h h' tk t' (old_keptT hk)
  simpa [intItems] using this
theorem max_intTup {Q : Value → Shared → Prop} (hh : A.handled = none) (hl : s.heap.IsTuple l (intItems xs)) (hne : 0 < xs.size)
    (h : ∀ v h' tk, (intItems xs)[argBest (fun i j => decide (numAt xs i > numAt xs j)) (xs.size - 1)]? = some v → (∀ b o, s.heap.get? b = some o → h'.get? b = some o) → Q v { s with heap := h', toks := tk }) :
    wpAny (model prog w) A (call (.builtin "max") [.ref l]) Q E s := by
  refine call_max_walk (iter_intTup hl fun s₂ e st hfp hlI => ?_)
  subst e
  refine ⟨_, _, _, _, _, _, _, rfl, Walks.tuple (A := A.in1) hh _ l hlI (intItems xs), st, hfp, by simpa [intItems] using hne, CmpOf.ints_gt (numAt xs) (fun _ _ => intItems_at), fun v h' tk hP hk => ?_⟩
  exact h v h' tk (by simpa [intItems] using hP) (old_keptT hk)
theorem min_intTup {Q : Value → Shared → Prop} (hh : A.handled = none) (hl : s.heap.IsTuple l (intItems xs)) (hne : 0 < xs.size)
    (h : ∀ v h' tk, (intItems xs)[argBest (fun i j => decide (numAt xs i < numAt xs j)) (xs.size - 1)]? = some v → (∀ b o, s.heap.get? b = some o → h'.get? b = some o) → Q v { s with heap := h', toks := tk }) :
    wpAny (model prog w) A (call (.builtin "min") [.ref l]) Q E s := by
  refine call_min_walk (iter_intTup hl fun s₂ e st hfp hlI => ?_)
  subst e
  refine ⟨_, _, _, _, _, _, _, rfl, Walks.tuple (A := A.in1) hh _ l hlI (intItems xs), st, hfp, by simpa [intItems] using hne, CmpOf.ints_lt (numAt xs) (fun _ _ => intItems_at), fun v h' tk hP hk => ?_⟩
  exact h v h' tk (by simpa [intItems] using hP) (old_keptT hk)
variable {its : List Value} {ns : List Int}
theorem tsum_raw {Q : Value → Shared → Prop} (hh : A.handled = none) (hl : s.heap.IsTuple l its.toArray) (hi : IntsAre its ns)
    (h : ∀ h' tk t', (∀ b o, s.heap.get? b = some o → h'.get? b = some o) → Q (.int ns.sum t') { s with heap := h', toks := tk }) : wpAny (model prog w) A (call (.builtin "sum") [.ref l]) Q E s := by
  obtain ⟨xs, e⟩ := hi.allInts.items
  have hn : numsOf (intItems xs).toList = ns := by rw [← e]; exact hi.numsOf
  rw [nums_intItems] at hn
  subst hn
  rw [e] at hl
  refine sum_intTup hh hl fun h' tk t' hk => ?_
  have := h h' tk t' hk
  rw [preSum_eq, List.take_of_length_le (by simp)]; exact this
theorem tmax_raw {Q : Value → Shared → Prop} (hh : A.handled = none) (hl : s.heap.IsTuple l its.toArray) (hi : IntsAre its ns) (hne : 0 < ns.length)
    (h : ∀ h' tk M t', (∀ b o, s.heap.get? b = some o → h'.get? b = some o) → M ∈ ns → (∀ a, a ∈ ns → a ≤ M) → Q (.int M t') { s with heap := h', toks := tk }) : wpAny (model prog w) A (call (.builtin "max") [.ref l]) Q E s := by
  obtain ⟨xs, e⟩ := hi.allInts.items
  have hn : numsOf (intItems xs).toList = ns := by rw [← e]; exact hi.numsOf
  rw [nums_intItems] at hn
  subst hn
  rw [e] at hl
  have hsz : 0 < xs.size := by simpa using hne
  refine max_intTup hh hl hsz fun v h' tk hv hk => ?_
  obtain ⟨t, rfl⟩ := intItems_at hv
  obtain ⟨h1, h2⟩ := argBest_gt (numAt xs) (xs.size - 1)
  refine h h' tk _ t hk ?_ fun a ha => ?_
  · rw [numAt_eq]; exact PySem.getD_mem (by rw [List.length_map, Array.length_toList]; omega)
  · obtain ⟨j, hj, rfl⟩ := mem_getD ha
    rw [List.length_map, Array.length_toList] at hj
    rw [← numAt_eq]; exact h2 j (by omega)
theorem tmin_raw {Q : Value → Shared → Prop} (hh : A.handled = none) (hl : s.heap.IsTuple l its.toArray) (hi : IntsAre its ns) (hne : 0 < ns.length)
    (h : ∀ h' tk M t', (∀ b o, s.heap.get? b = some o → h'.get? b = some o) → M ∈ ns → (∀ a, a ∈ ns → M ≤ a) → Q (.int M t') { s with heap := h', toks := tk }) : wpAny (model prog w) A (call (.builtin "min") [.ref l]) Q E s := by
  obtain ⟨xs, e⟩ := hi.allInts.items
  have hn : numsOf (intItems xs).toList = ns := by rw [← e]; exact hi.numsOf
  rw [nums_intItems] at hn
  subst hn
  rw [e] at hl
  have hsz : 0 < xs.size := by simpa using hne
  refine min_intTup hh hl hsz fun v h' tk hv hk => ?_
  obtain ⟨t, rfl⟩ := intItems_at hv
  obtain ⟨h1, h2⟩ := argBest_lt (numAt xs) (xs.size - 1)
  refine h h' tk _ t hk ?_ fun a ha => ?_
  · rw [numAt_eq]; exact PySem.getD_mem (by rw [List.length_map, Array.length_toList]; omega)
  · obtain ⟨j, hj, rfl⟩ := mem_getD ha
    rw [List.length_map, Array.length_toList] at hj
    rw [← numAt_eq]; exact h2 j (by omega)
end
section
variable {X : Cx} {tb : Tb}
def bSumA : List Dv → Option Dv
  | [.val (.list ds)] => (intsOf ds).map fun ns => .val (.int ns.sum)
  | [.val (.tuple ds)] => (intsOf ds).map fun ns => .val (.int ns.sum)
  | _ => none
theorem k_sumA (hc : X.calm = true) : CallR X (.builtin "sum") (rC (Cx.md X tb) bSumA) := by
  rintro pins s σ H xs us Q I r ⟨W, ds, z, sm, rd, hz, q⟩
  unfold bSumA at hz
  split at hz
  · rename_i ds
    exact k_sum hc pins s σ H _ us Q I r ⟨W, _, z, sm, rd, hz, q⟩
  · rename_i ds
    obtain ⟨w, rfl, r1⟩ := rvl1 rd
    cases e : intsOf ds with
    | none => rw [e] at hz; cases hz
    | some bs =>
      rw [e] at hz; cases hz
      obtain ⟨p, zs, rfl, ea, za, ra⟩ := rv_tup r1
      have e2 := ints_v ra e
      subst e2
      obtain ⟨its, rv, p1, _⟩ := I.tuple (SqT_frz ea sm)
      rw [Vals.ref1 r]
      exact tsum_raw (I.ok.hd hc) p1 rv.ints fun h' tk t' hk => ⟨.int _, H, I.kept hk, ⟨_, rfl⟩, stay q sm (.val (.int _))⟩
  · cases hz
def grOf : Int → List Int → Int
  | m, [] => m
  | m, n :: ns => grOf (if m < n then n else m) ns
theorem grOf_ok : ∀ (ns : List Int) (m : Int), (grOf m ns = m ∨ grOf m ns ∈ ns) ∧ m ≤ grOf m ns ∧ ∀ k ∈ ns, k ≤ grOf m ns
  | [], m => ⟨.inl rfl, Int.le_refl _, fun _ h => absurd h List.not_mem_nil⟩
  | n :: ns, m => by
    by_cases c : m < n
    · have e : grOf m (n :: ns) = grOf n ns := by show grOf (if m < n then n else m) ns = _; rw [if_pos c]
      obtain ⟨h1, h2, h3⟩ := grOf_ok ns n
      rw [e]
      refine ⟨?_, by omega, fun k hk => ?_⟩
      · rcases h1 with h1 | h1
        · rw [h1]; exact .inr List.mem_cons_self
        · exact .inr (List.mem_cons_of_mem _ h1)
      · rcases List.mem_cons.mp hk with rfl | hk
        · exact h2
        · exact h3 k hk
    · have e : grOf m (n :: ns) = grOf m ns := by show grOf (if m < n then n else m) ns = _; rw [if_neg c]
      obtain ⟨h1, h2, h3⟩ := grOf_ok ns m
      rw [e]
      refine ⟨?_, h2, fun k hk => ?_⟩
      · rcases h1 with h1 | h1
        · exact .inl h1
        · exact .inr (List.mem_cons_of_mem _ h1)
      · rcases List.mem_cons.mp hk with rfl | hk
        · omega
        · exact h3 k hk
def bMaxA : List Dv → Option Dv
  | [.val (.int i), .val (.int j)] => some (.val (.int (if j > i then j else i)))
  | [.val (.list ds)] => (match intsOf ds with
    | some (n :: ns) => some (.val (.int (grOf n ns)))
    | _ => none)
  | [.val (.tuple ds)] => (match intsOf ds with
    | some (n :: ns) => some (.val (.int (grOf n ns)))
    | _ => none)
  | _ => none
theorem gr_eq {n m : Int} {ns : List Int} (hm : m ∈ n :: ns) (hle : ∀ y ∈ n :: ns, y ≤ m) : m = grOf n ns := by
  obtain ⟨h1, h2, h3⟩ := grOf_ok ns n
  have a1 : grOf n ns ≤ m := by
    rcases h1 with h1 | h1
    · rw [h1]; exact hle n List.mem_cons_self
    · exact hle _ (List.mem_cons_of_mem _ h1)
  have a2 : m ≤ grOf n ns := by
    rcases List.mem_cons.mp hm with rfl | hm
    · exact h2
    · exact h3 m hm
  omega
theorem ls_eq {n m : Int} {ns : List Int} (hm : m ∈ n :: ns) (hle : ∀ y ∈ n :: ns, m ≤ y) : m = leastOf n ns := by
  obtain ⟨h1, h2, h3⟩ := leastOf_ok ns n
  have a1 : m ≤ leastOf n ns := by
    rcases h1 with h1 | h1
    · rw [h1]; exact hle n List.mem_cons_self
    · exact hle _ (List.mem_cons_of_mem _ h1)
  have a2 : leastOf n ns ≤ m := by
    rcases List.mem_cons.mp hm with rfl | hm
    · exact h2
    · exact h3 m hm
  omega
theorem k_maxA (hc : X.calm = true) : CallR X (.builtin "max") (rC (Cx.md X tb) bMaxA) := by
  rintro pins s σ H xs us Q I r ⟨W, ds, z, sm, rd, hz, q⟩
  unfold bMaxA at hz
  split at hz
  · exact k_max hc pins s σ H _ us Q I r ⟨W, _, z, sm, rd, hz, q⟩
  · rename_i ds
    obtain ⟨w, rfl, r1⟩ := rvl1 rd
    split at hz
    · rename_i n ns h
      cases hz
      obtain ⟨p, zs, rfl, ea, za, ra⟩ := rv_lst r1
      have e := ints_v ra h
      subst e
      refine cr_max hc pins s σ H _ us Q I r ⟨p, n :: ns, rfl, SqL.of (sm _ _ ea), Nat.succ_pos _, fun m hm hle => ?_⟩
      rw [gr_eq hm hle]
      exact stay q sm (.val (.int _))
    · cases hz
  · rename_i ds
    obtain ⟨w, rfl, r1⟩ := rvl1 rd
    split at hz
    · rename_i n ns h
      cases hz
      obtain ⟨p, zs, rfl, ea, za, ra⟩ := rv_tup r1
      have e := ints_v ra h
      subst e
      obtain ⟨its, rv, p1, _⟩ := I.tuple (SqT_frz ea sm)
      rw [Vals.ref1 r]
      refine tmax_raw (I.ok.hd hc) p1 rv.ints (Nat.succ_pos _) fun h' tk m t' hk h1 h2 => ?_
      rw [gr_eq h1 h2]
      exact ⟨.int _, H, I.kept hk, ⟨_, rfl⟩, stay q sm (.val (.int _))⟩
    · cases hz
  · cases hz
def bMinA : List Dv → Option Dv
  | [.val (.list ds)] => (match intsOf ds with
    | some (n :: ns) => some (.val (.int (leastOf n ns)))
    | _ => none)
  | [.val (.tuple ds)] => (match intsOf ds with
    | some (n :: ns) => some (.val (.int (leastOf n ns)))
    | _ => none)
  | _ => none
theorem k_minA (hc : X.calm = true) : CallR X (.builtin "min") (rC (Cx.md X tb) bMinA) := by
  rintro pins s σ H xs us Q I r ⟨W, ds, z, sm, rd, hz, q⟩
  unfold bMinA at hz
  split at hz
  · exact k_minL hc pins s σ H _ us Q I r ⟨W, _, z, sm, rd, hz, q⟩
  · rename_i ds
    obtain ⟨w, rfl, r1⟩ := rvl1 rd
    split at hz
    · rename_i n ns h
      cases hz
      obtain ⟨p, zs, rfl, ea, za, ra⟩ := rv_tup r1
      have e := ints_v ra h
      subst e
      obtain ⟨its, rv, p1, _⟩ := I.tuple (SqT_frz ea sm)
      rw [Vals.ref1 r]
      refine tmin_raw (I.ok.hd hc) p1 rv.ints (Nat.succ_pos _) fun h' tk m t' hk h1 h2 => ?_
      rw [ls_eq h1 h2]
      exact ⟨.int _, H, I.kept hk, ⟨_, rfl⟩, stay q sm (.val (.int _))⟩
    · cases hz
  · cases hz
end
theorem o_w_sumT {ns : List Int} {Q : Dv → Prop} (q : Q (.val (.int ns.sum))) : wO (bSumA [.val (.tuple (ns.map PyData.int))]) Q := by
  show wO ((intsOf (ns.map PyData.int)).map fun ns => Dv.val (.int ns.sum)) Q
  rw [intsOf_map]; exact q
theorem o_w_sumL {ns : List Int} {Q : Dv → Prop} (q : Q (.val (.int ns.sum))) : wO (bSumA [.val (.list (ns.map PyData.int))]) Q := by
  show wO ((intsOf (ns.map PyData.int)).map fun ns => Dv.val (.int ns.sum)) Q
  rw [intsOf_map]; exact q
theorem o_w_maxT {ns : List Int} (h : ns ≠ []) {Q : Dv → Prop} (q : ∀ m, m ∈ ns → (∀ y ∈ ns, y ≤ m) → Q (.val (.int m))) : wO (bMaxA [.val (.tuple (ns.map PyData.int))]) Q := by
  show wO (match intsOf (ns.map PyData.int) with | some (n :: ns) => some (.val (.int (grOf n ns))) | _ => none) Q
  rw [intsOf_map]
  match ns, h with
  | n :: ns, _ =>
    obtain ⟨h1, h2, h3⟩ := grOf_ok ns n
    refine q _ ?_ fun y hy => ?_
    · rcases h1 with h1 | h1
      · rw [h1]; exact List.mem_cons_self
      · exact List.mem_cons_of_mem _ h1
    · rcases List.mem_cons.mp hy with rfl | hy
      · exact h2
      · exact h3 y hy
theorem o_w_minT {ns : List Int} (h : ns ≠ []) {Q : Dv → Prop} (q : ∀ m, m ∈ ns → (∀ y ∈ ns, m ≤ y) → Q (.val (.int m))) : wO (bMinA [.val (.tuple (ns.map PyData.int))]) Q := by
  show wO (match intsOf (ns.map PyData.int) with | some (n :: ns) => some (.val (.int (leastOf n ns))) | _ => none) Q
  rw [intsOf_map]
  match ns, h with
  | n :: ns, _ =>
    obtain ⟨h1, h2, h3⟩ := leastOf_ok ns n
    refine q _ ?_ fun y hy => ?_
    · rcases h1 with h1 | h1
      · rw [h1]; exact List.mem_cons_self
      · exact List.mem_cons_of_mem _ h1
    · rcases List.mem_cons.mp hy with rfl | hy
      · exact h2
      · exact h3 y hy
end DL

set_option maxRecDepth 100000
set_option maxHeartbeats 8000000
/-! ### zip of a list and a tuple, in either order -/
namespace DL
open PySem PySem.Spec PyProof.Rows L2
/-- what can be walked beside another: its rows in the abstract heap, its own iterator -/
structure Src (P : Program) (w : World) (a : Addr) (Pk : PySem.W.Frag → Hp → List V → Prop) (Col : Heap → Array Value → Prop) (It : Addr → Nat → Heap → Prop) : Prop where
  col : ∀ {X : Cx} {pins : List (Addr × Obj)} {σ : L2.St} {H : Hp} {s : Shared} {xs : List V}, Inv X pins σ H s → Pk X.K H xs → ∃ its : List Value, Vals xs its ∧ Col s.heap its.toArray
  inj : ∀ {X : Cx} {pins : List (Addr × Obj)} {σ : L2.St} {H : Hp} {s : Shared} {xs ys : List V}, Inv X pins σ H s → Pk X.K H xs → Pk X.K H ys → xs = ys
  lt : ∀ {h : Heap} {its : Array Value}, Col h its → a < h.objs.size
  draws : ∀ {A : Around} (_ : A.handled = none) (it : Addr) (_ : a ≠ it) (its : Array Value), Draws P w A it [it, a] its.size (fun i v => its[i]? = some v) (fun i h => It it i h ∧ Col h its)
  obj : ∀ {it : Addr} {i : Nat} {h : Heap}, It it i h → ∃ o, h.get? it = some o ∧ ∀ v, o.data ≠ .cell v
  keep : ∀ {it : Addr} {i : Nat} {h h' : Heap}, It it i h → (∀ o, h.get? it = some o → h'.get? it = some o) → It it i h'
theorem src_list {P : Program} {w : World} {a : Addr} : Src P w a (fun K H xs => SqL K H a xs) (fun h its => h.IsList a its) (fun it i h => h.IsListIter it a i) where
  col := fun I h => by obtain ⟨its, r, p, _⟩ := I.list h; exact ⟨its, r, p.isList⟩
  inj := fun I h h' => I.list_inj h h'
  lt := fun ⟨_, ho, _⟩ => Heap.lt_size ho
  draws := fun hh it hne its => .list hh it a hne its
  obj := fun ⟨o, ho, _, hd⟩ => ⟨o, ho, fun v q => by rw [hd] at q; cases q⟩
  keep := fun x k => x.at fun o e => k o e
theorem src_tuple {P : Program} {w : World} {a : Addr} : Src P w a (fun K H xs => SqT K H a xs) (fun h its => h.IsTuple a its) (fun it i h => h.IsTupleIter it a i) where
  col := fun I h => by obtain ⟨its, r, p, _⟩ := I.tuple h; exact ⟨its, r, p⟩
  inj := fun I h h' => I.tuple_inj h h'
  lt := fun ⟨_, ho, _⟩ => Heap.lt_size ho
  draws := fun hh it hne its => .tuple hh it a hne its
  obj := fun ⟨o, ho, _, hd⟩ => ⟨o, ho, fun v q => by rw [hd] at q; cases q⟩
  keep := fun x k => x.at fun o e => k o e
/-- two such beside each other, the items in new pairs -/
def ItM (P1 P2 : Hp → List V → Prop) : It :=
  ⟨fun i H => ∃ (xs ys : List V) (x y : V), P1 H xs ∧ P2 H ys ∧ xs[i]? = some x ∧ ys[i]? = some y,
    fun i H v H' => ∃ T x y, v = .ref T ∧ H T = none ∧ H' = upd H T (.tup [x, y]) ∧ (∀ xs, P1 H xs → xs[i]? = some x) ∧ ∀ ys, P2 H ys → ys[i]? = some y,
    fun i H => ∃ xs ys : List V, P1 H xs ∧ P2 H ys ∧ (i = min xs.length ys.length)⟩
section
variable {P : Program} {w : World} {a b : Addr} {P1 P2 : PySem.W.Frag → Hp → List V → Prop} {C1 C2 : Heap → Array Value → Prop} {I1 I2 : Addr → Nat → Heap → Prop}
theorem turnM (S1 : Src P w a P1 C1 I1) (S2 : Src P w b P2 C2 I2) {K : PySem.W.Frag} {elts : List Expr} {kk : Nat} {tpos : Pos} {N : Nat} (ha : a < N) (hb : b < N) :
    Turn P w K (.Tuple elts kk tpos) (ItM (P1 K) (P2 K)) [N + 4, N + 2, N + 3, N, N + 1] (N + 4) (fun i h => IsZip h (N + 4) (N + 2) (N + 3) .none ∧ IsTupOf2 h (N + 2) (.ref N) (.ref (N + 1)) ∧ (∃ x y, IsTupOf2 h (N + 3) x y) ∧ I1 N i h ∧ I2 (N + 1) i h) where
  mem := by simp
  obj := fun i h st c hc => by
    obtain ⟨hz, hTI, ⟨x, y, hTO⟩, h1, h2⟩ := st
    have e' : c = N + 4 ∨ c = N + 2 ∨ c = N + 3 ∨ c = N ∨ c = N + 1 := by simpa using hc
    rcases e' with rfl | rfl | rfl | rfl | rfl
    · exact ⟨_, hz, fun v q => nomatch q⟩
    · exact ⟨_, hTI, fun v q => nomatch q⟩
    · exact ⟨_, hTO, fun v q => nomatch q⟩
    · exact S1.obj h1
    · exact S2.obj h2
  keep := fun i h h' st k => by
    obtain ⟨hz, hTI, ⟨x, y, hTO⟩, h1, h2⟩ := st
    exact ⟨k (N + 4) (by simp) _ hz, k (N + 2) (by simp) _ hTI, ⟨x, y, k (N + 3) (by simp) _ hTO⟩, S1.keep h1 fun o q => k N (by simp) o q, S2.keep h2 fun o q => k (N + 1) (by simp) o q⟩
  item := by
    intro X hP hw hK hc i pins s σ H E I hf st hg
    subst hP hw hK
    obtain ⟨hz, hTI, hTO, h1, h2⟩ := st
    obtain ⟨xs, ys, x, y, hqx, hqy, hx, hy⟩ := hg
    obtain ⟨its, rv, p⟩ := S1.col I hqx
    obtain ⟨its2, rv2, p2⟩ := S2.col I hqy
    have hh : X.A.handled = none := I.ok.hd hc
    have G := GoesN.zip2 (elts := elts) (x1 := kk) (pos := tpos) (zip_sep2 (N := N) (fp1 := [a]) (fp2 := [b]) (fun c hc => by rw [List.mem_singleton.mp hc]; exact ha) (fun c hc => by rw [List.mem_singleton.mp hc]; exact hb))
      (S1.draws (A := X.A.in1) hh N (Nat.ne_of_lt ha) its.toArray) (S2.draws (A := X.A.in1) hh (N + 1) (Nat.ne_of_lt (Nat.lt_succ_of_lt hb)) its2.toArray)
    have l1 := rv.length
    have l2 := rv2.length
    have hi : i < min its.toArray.size its2.toArray.size := by
      have q1 := (List.getElem?_eq_some_iff.mp hx).1
      have q2 := (List.getElem?_eq_some_iff.mp hy).1
      simp only [List.size_toArray]
      omega
    refine wpAny_mono (G.goes i s (fun u s2 => ∃ x H', Inv X pins σ H' s2 ∧ RelV x u ∧ (ItM (P1 X.K) (P2 X.K)).yld i H x H' ∧ (IsZip s2.heap (N + 4) (N + 2) (N + 3) .none ∧ IsTupOf2 s2.heap (N + 2) (.ref N) (.ref (N + 1)) ∧ (∃ x y, IsTupOf2 s2.heap (N + 3) x y) ∧ I1 N (i + 1) s2.heap ∧ I2 (N + 1) (i + 1) s2.heap) ∧ ∀ b ∈ [N + 4, N + 2, N + 3, N, N + 1], H' b = none) E hi ⟨hz, hTI, hTO, ⟨h1, p⟩, ⟨h2, p2⟩⟩ ?_) (fun _ _ h => h) fun _ _ h => h
    rintro v h' tk ⟨T, u, u2, rfl, hnew, hu, hu2, hT⟩ ⟨hz', hTI', hTO', ⟨h1', _⟩, ⟨h2', _⟩⟩ hk htk
    obtain ⟨u', hu', ru⟩ := rv.get hx
    obtain ⟨u2', hu2', ru2⟩ := rv2.get hy
    have hu : its[i]? = some u := by simpa using hu
    have hu2 : its2[i]? = some u2 := by simpa using hu2
    rw [hu'] at hu; cases hu
    rw [hu2'] at hu2; cases hu2
    have hT2 : IsTup h' T [u, u2].toArray := hT
    have new : ObjOk X.prog X.w (upd H T (.tup [x, y])) h' T (.tup [x, y]) := ⟨by show 2 ≤ sizeLine; decide, [u, u2], .cons ru (.cons ru2 .nil), hT2⟩
    have J : Inv X pins σ (upd H T (.tup [x, y])) { s with heap := h', toks := tk } :=
      I.turnedNew (t' := tk) (ch := [N + 4, N + 3, N, N + 1]) (fun c o hb q => hk c o hb q) (fun c hc => hf c (by
        have e' : c = N + 4 ∨ c = N + 3 ∨ c = N ∨ c = N + 1 := by simpa using hc
        rcases e' with rfl | rfl | rfl | rfl <;> simp)) hnew new
    refine ⟨.ref T, _, J, rfl, ⟨T, x, y, rfl, I.hok.fresh hnew, rfl, fun l hl => by rw [S1.inj I hl hqx]; exact hx, fun l hl => by rw [S2.inj I hl hqy]; exact hy⟩, ⟨hz', hTI', hTO', h1', h2'⟩, fun c hcm => ?_⟩
    have hlt : c < s.heap.objs.size := by
      have e' : c = N + 4 ∨ c = N + 2 ∨ c = N + 3 ∨ c = N ∨ c = N + 1 := by simpa using hcm
      obtain ⟨x0, y0, hTO⟩ := hTO
      rcases e' with rfl | rfl | rfl | rfl | rfl
      · exact Heap.lt_size hz
      · exact Heap.lt_size hTI
      · exact Heap.lt_size hTO
      · obtain ⟨_, e1, _⟩ := S1.obj h1; exact Heap.lt_size e1
      · obtain ⟨_, e2, _⟩ := S2.obj h2; exact Heap.lt_size e2
    rw [upd_ne (Nat.ne_of_lt (Nat.lt_of_lt_of_le hlt hnew))]
    exact (hf c hcm).1
  done := by
    intro X hP hw hK hc i pins s σ H E I hf st hg
    subst hP hw hK
    obtain ⟨hz, hTI, hTO, h1, h2⟩ := st
    obtain ⟨xs, ys, hqx, hqy, hend⟩ := hg
    obtain ⟨its, rv, p⟩ := S1.col I hqx
    obtain ⟨its2, rv2, p2⟩ := S2.col I hqy
    have hh : X.A.handled = none := I.ok.hd hc
    have G := GoesN.zip2 (elts := elts) (x1 := kk) (pos := tpos) (zip_sep2 (N := N) (fp1 := [a]) (fp2 := [b]) (fun c hc => by rw [List.mem_singleton.mp hc]; exact ha) (fun c hc => by rw [List.mem_singleton.mp hc]; exact hb))
      (S1.draws (A := X.A.in1) hh N (Nat.ne_of_lt ha) its.toArray) (S2.draws (A := X.A.in1) hh (N + 1) (Nat.ne_of_lt (Nat.lt_succ_of_lt hb)) its2.toArray)
    have l1 := rv.length
    have l2 := rv2.length
    have he : i = min its.toArray.size its2.toArray.size := by simp only [List.size_toArray]; omega
    subst he
    exact G.stops s (Inv X pins σ H) E ⟨hz, hTI, hTO, ⟨h1, p⟩, ⟨h2, p2⟩⟩ fun h' tk hk htk => I.turnedL (t' := tk) (ch := [N + 4, N + 3, N, N + 1]) (fun c o hb q => hk c o hb q) (fun c hc => hf c (by
        have e' : c = N + 4 ∨ c = N + 3 ∨ c = N ∨ c = N + 1 := by simpa using hc
        rcases e' with rfl | rfl | rfl | rfl <;> simp))
  self := fun A i s Q E st h => wpAny_pyIter_zip st.1 h
end
section
variable {X : Cx} {tb : Tb} {B : WX} {P1 P2 : Addr → PySem.W.Frag → Hp → List V → Prop} {C1 C2 : Addr → Heap → Array Value → Prop} {I1 I2 : Addr → Addr → Nat → Heap → Prop} {o1 o2 : Addr → Obj}
def iMix (K : PySem.W.Frag) (P1 P2 : Addr → PySem.W.Frag → Hp → List V → Prop) (ta : TA) : TI := fun σ H R => ta σ H fun vs H1 => ∃ a b xs ys, vs = [.ref a, .ref b] ∧ P1 a K H1 xs ∧ P2 b K H1 ys ∧ R (ItM (P1 a K) (P2 b K)) H1
theorem pi_mix (S1 : ∀ a, Src X.prog X.w a (P1 a) (C1 a) (I1 a)) (S2 : ∀ a, Src X.prog X.w a (P2 a) (C2 a) (I2 a)) (B1 : ∀ a its, Begins (.ref a) (o1 a) fun h => C1 a h its) (B2 : ∀ a its, Begins (.ref a) (o2 a) fun h => C2 a h its)
    (z1 : ∀ {h : Heap} {a it : Addr}, h.get? it = some (o1 a) → I1 a it 0 h) (z2 : ∀ {h : Heap} {a it : Addr}, h.get? it = some (o2 a) → I2 a it 0 h)
    {e e2 : Expr} {ta : TA} {p pos tpos : Pos} {elts : List Expr} {kk : Nat} (hg : Gl X "zip") (hm : X.mg "zip" = none) (ha : PA X [e, e2] ta)
    (hs : starEach [e, e2] X.env = (false, eval e X.env) :: starEach [e2] X.env := by rfl) (hpl : (backTo pos (starEach [e2] X.env)).any (·.1) = false := by rfl) :
    PI X (.Tuple elts kk tpos) (.Call (.Name "zip" p) [e, e2] [] pos) (iMix X.K P1 P2 ta) := by
  refine ⟨fun pins s σ H R I h => ?_⟩
  refine Call_ (ld_blt I hg hm PyProof.Rows.boot_zip (PyProof.Rows.callWith_type1 (thn (ha.run pos pins s σ H _ I h) fun us s1 ⟨vs, H1, J1, r1, q1⟩ => ?_) hs hpl))
  obtain ⟨a, b, xs, ys, rfl, q1, q2, q⟩ := q1
  cases r1 with
  | cons r rr =>
    cases rr with
    | cons r' rr =>
      cases rr
      cases r
      cases r'
      obtain ⟨its, rv, p1⟩ := (S1 a).col J1 q1
      obtain ⟨its2, rv2, p2⟩ := (S2 b).col J1 q2
      refine zip_begins2 (B1 a its.toArray) (B2 b its2.toArray) p1 p2 fun h' hz hTI hTO h1 h2 hsz hk => wpAny_pyIter_zip hz ?_
      have J2 : Inv X pins σ H1 { s1 with heap := h' } := J1.kept (t' := s1.toks) hk
      refine ⟨s1.heap.objs.size + 4, [s1.heap.objs.size + 4, s1.heap.objs.size + 2, s1.heap.objs.size + 3, s1.heap.objs.size, s1.heap.objs.size + 1], _, _, H1, rfl, J2, turnM (S1 a) (S2 b) ((S1 a).lt p1) ((S2 b).lt p2), ⟨hz, hTI, ⟨_, _, hTO⟩, z1 h1, z2 h2⟩, fun c hcm => ?_, q⟩
      have e' : c = s1.heap.objs.size + 4 ∨ c = s1.heap.objs.size + 2 ∨ c = s1.heap.objs.size + 3 ∨ c = s1.heap.objs.size ∨ c = s1.heap.objs.size + 1 := by simpa using hcm
      have hle : s1.heap.objs.size ≤ c := by
        rcases e' with z | z | z | z | z <;> rw [z]
        · exact Nat.le_add_right _ _
        · exact Nat.le_add_right _ _
        · exact Nat.le_add_right _ _
        · exact Nat.le_refl _
        · exact Nat.le_add_right _ _
      exact J1.fpOk hle (J1.hok.fresh hle)
theorem w_mix {F : Hp} {P1 P2 : Hp → List V → Prop} {xs ys : List V} {ds es : List PyData} (e : ∀ H, Same F H → P1 H xs) (r : DqAll F xs ds) (e' : ∀ H, Same F H → P2 H ys) (r' : DqAll F ys es) : IsWalkG Dw F (ItM P1 P2) (zipL ds es) := by
  have hl : (zipL ds es).length = min xs.length ys.length := by rw [zipL_len, r.length, r'.length]
  refine ⟨fun i H hi s => ?_, fun H s => ⟨xs, ys, e _ s, e' _ s, hl⟩, fun i H x H' W π d y e2 s s2 p => ?_⟩
  · rw [hl] at hi
    exact ⟨xs, ys, xs[i]'(by omega), ys[i]'(by omega), e _ s, e' _ s, by simp [show i < xs.length by omega], by simp [show i < ys.length by omega]⟩
  · obtain ⟨T, x, y1, rfl, n, rfl, h1, h2⟩ := y
    obtain ⟨d1, d2, e3, e4, rfl⟩ := zipL_get e2
    obtain ⟨v, hv, rv⟩ := r.get' e3
    obtain ⟨u, hu, ru⟩ := r'.get' e4
    have q1 := h1 xs (e _ (s.trans s2))
    have q2 := h2 ys (e' _ (s.trans s2))
    rw [hv] at q1; cases q1
    rw [hu] at q2; cases q2
    exact pair_step s2 p n (rv.mono s) (ru.mono s)
/-- zip, also of a list and a tuple -/
def iZipY (g : SE (List Dv)) : SE (List PyData) := fun ρ π => (g ρ π).bind fun ds π2 => match ds with
  | [.val (.list x), .val (.tuple y)] => .ok (zipL x y) π2
  | [.val (.tuple x), .val (.list y)] => .ok (zipL x y) π2
  | [.val (.str x), .val (.str y)] => .ok (zipL (signs x) (signs y)) π2
  | [.val (.list x), .val (.list y)] => .ok (zipL x y) π2
  | [.val (.tuple x), .val (.tuple y)] => .ok (zipL x y) π2
  | _ => .bad
theorem i_zipY {e e2 : Expr} {p pos tpos : Pos} {elts : List Expr} {kk : Nat} {g : SE (List Dv)} (hm : X.mg "zip" = none) (ha : PA X [e, e2] (tA (Cx.md X tb) B g)) (hg : Gl X "zip" := by rfl) (hs : starEach [e, e2] X.env = (false, eval e X.env) :: starEach [e2] X.env := by rfl)
    (hpl : (backTo pos (starEach [e2] X.env)).any (·.1) = false := by rfl) : PI X (.Tuple elts kk tpos) (.Call (.Name "zip" p) [e, e2] [] pos) (tIG Dw (Cx.md X tb) B (iZipY g)) := by
  refine ⟨fun pins s σ H R I ⟨W, ρ, π, st, p⟩ => ?_⟩
  unfold iZipY at p
  cases q : g ρ π with
  | bad => rw [q] at p; exact p.elim
  | exn n π' => rw [q] at p; exact (i_zipX hm ha hg hs hpl).run pins s σ H R I ⟨W, ρ, π, st, by unfold iZipX; rw [q]; exact p⟩
  | ok ds π1 =>
    rw [q] at p
    simp only [Res.bind] at p
    split at p
    · refine (pi_mix (o1 := fun a => { cls := .type "list_iterator", data := .fields #[.ref a, .int 0 0] }) (o2 := fun a => { cls := .type "tuple_iterator", data := .fields #[.ref a, .int 0 0] }) (fun a => src_list) (fun a => src_tuple) (fun a its => begins_list a its) (fun a its => begins_tuple a its) (fun e => ⟨_, e, rfl, rfl⟩) (fun e => ⟨_, e, rfl, rfl⟩) hg hm ha hs hpl).run pins s σ H R I ⟨W, ρ, π, st, ?_⟩
      rw [q]
      intro W1 H1 vs s1 pn1 sm1 r1
      obtain ⟨v, w, rfl, r2, r3⟩ := rvl2 r1
      obtain ⟨a, xs, rfl, e, z, r⟩ := rv_lst (X := X) r2
      obtain ⟨b, ys, rfl, e', z', r'⟩ := rv_tup (X := X) r3
      exact ⟨a, b, xs, ys, rfl, SqL.of (sm1 _ _ e), SqT_frz e' sm1, p W1 H1 _ s1 pn1 sm1 (w_mix (fun H s => SqL.of (s _ _ e)) r (fun H s => SqT_frz e' s) r')⟩
    · refine (pi_mix (o1 := fun a => { cls := .type "tuple_iterator", data := .fields #[.ref a, .int 0 0] }) (o2 := fun a => { cls := .type "list_iterator", data := .fields #[.ref a, .int 0 0] }) (fun a => src_tuple) (fun a => src_list) (fun a its => begins_tuple a its) (fun a its => begins_list a its) (fun e => ⟨_, e, rfl, rfl⟩) (fun e => ⟨_, e, rfl, rfl⟩) hg hm ha hs hpl).run pins s σ H R I ⟨W, ρ, π, st, ?_⟩
      rw [q]
      intro W1 H1 vs s1 pn1 sm1 r1
      obtain ⟨v, w, rfl, r2, r3⟩ := rvl2 r1
      obtain ⟨a, xs, rfl, e, z, r⟩ := rv_tup (X := X) r2
      obtain ⟨b, ys, rfl, e', z', r'⟩ := rv_lst (X := X) r3
      exact ⟨a, b, xs, ys, rfl, SqT_frz e sm1, SqL.of (sm1 _ _ e'), p W1 H1 _ s1 pn1 sm1 (w_mix (fun H s => SqT_frz e s) r (fun H s => SqL.of (s _ _ e')) r')⟩
    · exact (i_zipX hm ha hg hs hpl).run pins s σ H R I ⟨W, ρ, π, st, by unfold iZipX; rw [q]; exact p⟩
    · exact (i_zipX hm ha hg hs hpl).run pins s σ H R I ⟨W, ρ, π, st, by unfold iZipX; rw [q]; exact p⟩
    · exact (i_zipX hm ha hg hs hpl).run pins s σ H R I ⟨W, ρ, π, st, by unfold iZipX; rw [q]; exact p⟩
    · exact p.elim
end
section
variable {E : Str → Pn → Prop} {ρ : List Sv} {π : Pn}
theorem w_izipYLT {g : SE (List Dv)} {Q : List PyData → Pn → Prop} (h : wR (g ρ π) E fun ds π => ∃ x y, ds = [.val (.list x), .val (.tuple y)] ∧ Q (zipL x y) π) : wR (iZipY g ρ π) E Q := by
  refine wR_bind (wR_mono h ?_ fun _ _ x => x)
  rintro _ π ⟨x, y, rfl, h⟩; exact h
theorem w_izipYTL {g : SE (List Dv)} {Q : List PyData → Pn → Prop} (h : wR (g ρ π) E fun ds π => ∃ x y, ds = [.val (.tuple x), .val (.list y)] ∧ Q (zipL x y) π) : wR (iZipY g ρ π) E Q := by
  refine wR_bind (wR_mono h ?_ fun _ _ x => x)
  rintro _ π ⟨x, y, rfl, h⟩; exact h
end
end DL

set_option maxRecDepth 100000
set_option maxHeartbeats 8000000
/-! ### sorted of a list or a tuple of ints -/
namespace DL
open PySem PySem.Spec PyProof.Rows L2
section
variable {prog : Program} {w : World} {A : Around} {E : Value → Shared → Prop} {s : Shared} {l : Addr} {vs : List Value}
abbrev gathered (h : Heap) (vs : List Value) : Heap := (h.push (seqObj "list" #[] 0)).update h.objs.size (Obj.mapSeq (· ++ vs.toArray))
theorem collect_tup {Q : List Value → Shared → Prop} (hl : s.heap.IsTuple l vs.toArray) (hz : vs.length ≤ sizeLine) (h : Q vs { s with heap := gathered s.heap vs }) :
    wpAny (model prog w) A (collect (.ref l)) Q E s := by
  obtain ⟨o, ho, hc, n, hd⟩ := id hl
  have ho' : (s.heap.push (seqObj "list" #[] 0)).get? l = some o := Heap.get?_push_of_some _ ho
  have hn : (s.heap.push (seqObj "list" #[] 0)).get? s.heap.objs.size = some (seqObj "list" #[] 0) := Heap.get?_push_size _ rfl
  unfold collect
  refine wpAny_bind (wpAny_runValue (codeAny_builtin entry_proto_collect' ?_))
  show wpAny _ _ (do again (.builtin "list.__iadd__" ⟨[← newList [], .ref l], []⟩)) _ _ s
  refine wpAny_bind (wpAny_newList (wpAny_pure ⟨Code.quiet_builtin _ (by decide +kernel), codeAny_builtin entry_list_iadd' ?_⟩))
  show wpAny _ _ (Builtin.List.listExtendWith (.ref s.heap.objs.size) (.ref l) (.ref s.heap.objs.size)) _ _ { s with heap := s.heap.push (seqObj "list" #[] 0) }
  unfold Builtin.List.listExtendWith
  refine wpAny_bind (wpAny_typeOf (T := "tuple") ⟨o, ho', hc⟩ ?_)
  rw [if_pos (by rw [show (Value.type "tuple" == Value.type "tuple") = true from rfl]; simp)]
  refine wpAny_bind (listItems_at ho' hd ?_)
  refine wpAny_bind (listItems_at hn rfl ?_)
  rw [if_neg (by simp)]
  refine wpAny_bind (listUpdate_at hn rfl ?_ (Nat.zero_le _) (by show (#[] ++ vs.toArray).size ≤ sizeLine + 1; simp only [Array.size_append, List.size_toArray, List.length_nil]; omega))
  refine wpAny_pure ?_
  show wpAny (model prog w) A (do
      let o ← load s.heap.objs.size
      match o.data with
      | .seq xs _ => pure xs.toList
      | _ => unsupported "internal:collect") Q E { s with heap := gathered s.heap vs }
  refine wpAny_bind (wpAny_load (get?_update_seq hn _) ?_)
  show wpAny _ _ (pure ((#[] : Array Value) ++ vs.toArray).toList) Q E _
  rw [show ((#[] : Array Value) ++ vs.toArray).toList = vs by simp]
  exact wpAny_pure h
theorem sorted_tupI {Q : Value → Shared → Prop} {ltv : Value → Value → Bool} (O : SrtO.Swo ltv) (hl : s.heap.IsTuple l vs.toArray) (hz : vs.length ≤ sizeLine)
    (hS : 2 ≤ vs.length → ∀ (h₁ : Heap) (a : Addr), SrtO.SortableO prog w A.in1.in1 { s with heap := h₁ } a vs ltv)
    (h : ∀ out : List Value, SrtO.Srtd ltv out → SrtO.Stb ltv out vs → Q (.ref (s.heap.objs.size + 1)) { s with heap := sortedAll s.heap vs out.toArray }) :
    wpAny (model prog w) A (call (.builtin "sorted") [.ref l]) Q E s := by
  refine Calls.call_function_entry kind_sorted plain_sorted entry_sorted (args_sorted1 _) ?_
  unfold Builtin.«sorted»
  refine wpAny_bind (m := checkCount "sorted" 1 1 _) (wpAny_pure ?_)
  refine wpAny_bind (collect_tup hl hz ?_)
  refine wpAny_bind (wpAny_newList ?_ hz)
  have hsz : (gathered s.heap vs).objs.size = s.heap.objs.size + 1 := by
    rw [Heap.size_update, size_push']
  have hoL : ((gathered s.heap vs).push (seqObj "list" vs.toArray 0)).get? (s.heap.objs.size + 1) = some (seqObj "list" vs.toArray 0) := by
    rw [← hsz]; exact Heap.get?_push_size _ rfl
  show wpAny _ _ _ _ _ { s with heap := (gathered s.heap vs).push (seqObj "list" vs.toArray 0) }
  rw [hsz]
  refine wpAny_bind (wpAny_holding (wpAny_call_entry slot_list_sort ⟨_, hoL, rfl⟩ entry_list_sort (SrtO.list_sort_ord O hoL hz (fun h2 => hS h2 _ _) fun out hs hb => ⟨_, rfl, ?_⟩) (args_list_sort _)))
  exact wpAny_pure ⟨_, rfl, h out hs hb⟩
end
section
variable {X : Cx}
/-- sorted of ints, out of a list or a tuple -/
def rSortedB (K : PySem.W.Frag) : List V → Hp → VK → Prop := fun vs H Q => ∃ (a : Addr) (ns : List Int), vs = [V.ref a] ∧ (SqL K H a (ns.map V.int) ∨ SqT K H a (ns.map V.int)) ∧
  ∀ (ns' : List Int) (p : Addr), ns'.Perm ns → ns'.Pairwise (· ≤ ·) → H p = none → Q (.ref p) (upd H p (.lst (ns'.map V.int)))
theorem cr_sortedB : CallR X (.builtin "sorted") (rSortedB X.K) := by
  intro pins s σ H vs us Q I r h
  obtain ⟨a, ns, rfl, hs | hs, q⟩ := h
  · exact cr_sortedI pins s σ H _ us Q I r ⟨a, ns, rfl, hs, q⟩
  · obtain ⟨its, rv, hl, hz⟩ := I.tuple hs
    rw [Vals.ref1 r]
    have hi := rv.ints
    refine sorted_tupI SrtO.swo_int (show s.heap.IsTuple a its.toArray from hl) (by rw [← rv.length]; exact hz) (fun h2 h₁ a' => SrtO.ints_sortable hi h2) fun out h1 h2 => ?_
    obtain ⟨k1, k2, k3⟩ := SrtO.ints_out hi h1 h2
    obtain ⟨ep, he'⟩ := PyProof.Rows.sortedAll_at s.heap its out.toArray
    have hlen : ((out.map SrtO.iv).map V.int).length ≤ sizeLine := by
      rw [List.length_map, k2.length_eq]
      rw [List.length_map] at hz
      exact hz
    exact ⟨.ref _, upd H (s.heap.objs.size + 1) (.lst ((out.map SrtO.iv).map V.int)), I.laid (t' := s.toks) (fun _ _ => PyProof.Rows.sortedAll_old) (Nat.le_succ _) ⟨hlen, out, ep, vals_of_ints k1, he'⟩, rfl, q _ _ k2 k3 (I.hok.fresh (Nat.le_succ _))⟩
end
def sortI (ns : List Int) : List Int := ns.mergeSort fun a b => decide (a ≤ b)
theorem sorted_one : ∀ {l m : List Int}, l.Perm m → l.Pairwise (· ≤ ·) → m.Pairwise (· ≤ ·) → l = m
  | [], m, p, _, _ => (List.nil_perm.mp p).symm
  | a :: l, [], p, _, _ => absurd (List.perm_nil.mp p) (by simp)
  | a :: l, b :: m, p, h1, h2 => by
    have h1 := List.pairwise_cons.mp h1
    have h2 := List.pairwise_cons.mp h2
    have e : a = b := by
      have m1 := p.mem_iff.mp (List.mem_cons_self : a ∈ a :: l)
      have m2 := p.mem_iff.mpr (List.mem_cons_self : b ∈ b :: m)
      rcases List.mem_cons.mp m1 with z | z
      · exact z
      · rcases List.mem_cons.mp m2 with y | y
        · exact y.symm
        · have := h1.1 b y
          have := h2.1 a z
          omega
    subst e
    rw [sorted_one (List.Perm.cons_inv p) h1.2 h2.2]
theorem sortI_perm (ns : List Int) : (sortI ns).Perm ns := List.mergeSort_perm _ _
theorem sortI_pair (ns : List Int) : (sortI ns).Pairwise (· ≤ ·) := by
  have := List.pairwise_mergeSort (le := fun a b : Int => decide (a ≤ b)) (fun a b c => by simp only [decide_eq_true_eq]; omega) (fun a b => by rw [Bool.or_eq_true, decide_eq_true_eq, decide_eq_true_eq]; omega) ns
  exact this.imp fun h => of_decide_eq_true h
theorem sortI_of {ns ns' : List Int} (p : ns'.Perm ns) (h : ns'.Pairwise (· ≤ ·)) : ns' = sortI ns := sorted_one (p.trans (sortI_perm ns).symm) h (sortI_pair ns)
/-- sorted(x) of ints -/
def lSorted (f : SE Dv) : SE (List PyData) := fun ρ π => (f ρ π).bind fun d π1 => match d with
  | .val (.list ds) => (match intsOf ds with
    | some ns => .ok ((sortI ns).map PyData.int) π1
    | none => .bad)
  | .val (.tuple ds) => (match intsOf ds with
    | some ns => .ok ((sortI ns).map PyData.int) π1
    | none => .bad)
  | .scr ns => .ok ((sortI ns).map PyData.int) π1
  | _ => .bad
section
variable {X : Cx} {tb : Tb} {B : WX}
theorem l_sorted {p pos : Pos} {e : Expr} {f : SE Dv} (hm : X.mg "sorted" = none) (he : PE X e (tE (Cx.md X tb) B f)) (hg : Gl X "sorted" := by rfl) (hs : starEach [e] X.env = (false, eval e X.env) :: starEach [] X.env := by rfl) (hpl : (backTo pos (starEach [] X.env)).any (·.1) = false := by rfl) :
    PE X (.Call (.Name "sorted" p) [e] [] pos) (tL (Cx.md X tb) B (lSorted f)) := by
  refine PE.weak (pe_callB cr_sortedB hg hm boot_sorted (pa_cons he pa_nil hs) (by decide) (by decide) hs hpl) ?_
  rintro σ H Q ⟨W, ρ, π, st, p⟩
  refine ⟨W, ρ, π, st, ?_⟩
  unfold lSorted at p
  cases q : f ρ π with
  | bad => rw [q] at p; exact p
  | exn n π' => rw [q] at p; exact p
  | ok d π1 =>
    rw [q] at p
    intro W1 H1 v s1 pn1 sm1 r1
    show ∃ a ns, [v] = [V.ref a] ∧ _
    have fin : ∀ {ns ns' : List Int} {l : Addr}, PostL (Cx.md X tb) B W H σ Q (.ok ((sortI ns).map PyData.int) π1) → (ns.map V.int).length ≤ sizeLine → ns'.Perm ns → ns'.Pairwise (· ≤ ·) → H1 l = none → Q (.ref l) (upd H1 l (.lst (ns'.map V.int))) := fun {ns ns' l} z hz h1 h2 nl => by
      rw [sortI_of h1 h2]
      exact ownL z s1 pn1 sm1 nl (by rw [List.length_map, (sortI_perm ns).length_eq]; rw [List.length_map] at hz; exact hz) (DqAll.ints _)
    cases r1 with
    | pen _ => exact p.elim
    | err _ _ => exact p.elim
    | dct _ _ _ => exact p.elim
    | fn _ => exact p.elim
    | scr ea za => exact ⟨_, _, rfl, .inl (sm1.seq ea), fun ns' l h1 h2 nl => fin p (by rw [List.length_map]; exact Nat.le_trans za (by rw [sizeLine_eq]; decide)) h1 h2 nl⟩
    | val r => cases r with
      | lst ea za ra =>
        rename_i ds
        change PostL (Cx.md X tb) B W H σ Q (match intsOf ds with | some ns => .ok ((sortI ns).map PyData.int) π1 | none => .bad) at p
        cases en : intsOf ds with
        | none => rw [en] at p; exact p.elim
        | some ns =>
          rw [en] at p
          have e2 := ints_v ra en
          subst e2
          exact ⟨_, ns, rfl, .inl (SqL.of (sm1 _ _ ea)), fun ns' l h1 h2 nl => fin p za h1 h2 nl⟩
      | tup ea po za ra =>
        rename_i ds
        change PostL (Cx.md X tb) B W H σ Q (match intsOf ds with | some ns => .ok ((sortI ns).map PyData.int) π1 | none => .bad) at p
        cases en : intsOf ds with
        | none => rw [en] at p; exact p.elim
        | some ns =>
          rw [en] at p
          have e2 := ints_v ra en
          subst e2
          exact ⟨_, ns, rfl, .inr (SqT_frz ⟨_, ea, po⟩ sm1), fun ns' l h1 h2 nl => fin p za h1 h2 nl⟩
      | non => exact p.elim
      | bl _ => exact p.elim
      | int _ => exact p.elim
      | str _ => exact p.elim
end
section
variable {E : Str → Pn → Prop} {ρ : List Sv} {π : Pn}
theorem w_sortedI {f : SE Dv} {Q : List PyData → Pn → Prop} (h : wR (f ρ π) E fun d π => ∃ ns : List Int, (d = .val (.list (ns.map PyData.int)) ∨ d = .val (.tuple (ns.map PyData.int)) ∨ d = .scr ns) ∧ Q ((sortI ns).map PyData.int) π) : wR (lSorted f ρ π) E Q := by
  refine wR_bind (wR_mono h ?_ fun _ _ x => x)
  rintro _ π ⟨ns, rfl | rfl | rfl, h⟩
  · show wR (match intsOf (ns.map PyData.int) with | some ns => Res.ok ((sortI ns).map PyData.int) π | none => Res.bad) E Q
    rw [intsOf_map]; exact h
  · show wR (match intsOf (ns.map PyData.int) with | some ns => Res.ok ((sortI ns).map PyData.int) π | none => Res.bad) E Q
    rw [intsOf_map]; exact h
  · exact h
theorem sortI_two (a b : Int) : sortI [a, b] = [min a b, max a b] := by
  refine (sortI_of ?_ ?_).symm
  · by_cases h : a ≤ b
    · rw [Int.min_eq_left h, Int.max_eq_right h]
    · rw [Int.min_eq_right (by omega), Int.max_eq_left (by omega)]; exact List.Perm.swap _ _ _
  · simp only [List.pairwise_cons, List.mem_singleton, List.not_mem_nil, false_implies, implies_true, List.Pairwise.nil, and_true, forall_eq]
    omega
end
end DL


set_option maxRecDepth 100000
set_option maxHeartbeats 4000000
namespace La
open PySem PySem.Spec PyProof.Rows L2 DL
local macro_rules | `(tactic| walk_at "dl w1") => `(tactic| with_reducible first
  | refine w_seq ?_ | refine w_set ?_ | refine w_setO ?_ | refine w_if ?_ | refine w_ret ?_ | refine w_expr ?_ | refine w_retN ?_ | refine w_skip ?_ | refine w_for ?_ | refine w_unp ?_ | refine w_par ?_ | refine w_raise ?_ | refine w_break ?_ | refine w_cont ?_
  | refine w_k ?_ | refine w_l2 ?_ | refine w_asB ?_ | refine w_asT ?_ | refine w_tand ?_ | refine w_tor ?_ | refine w_tnot ?_ | refine w_and ?_ | refine w_or ?_ | refine w_not ?_ | refine w_eif ?_
  | refine w_nil ?_ | refine w_cons ?_ | refine w_disp ?_ | refine w_etup ?_ | refine w_efrz ?_ | refine w_call ?_ | refine w_liftC ?_ | refine w_liftMS ?_ | refine w_onone ?_ | refine w_osome ?_ | refine w_slice ?_ | refine w_sliceK ?_ | refine w_neg ?_ | refine w_chain ?_
  | refine w_isE ?_ | refine w_liftML ?_ | refine w_bitlen ?_ | refine o_w_band ?_ | refine o_w_ltG2 ?_ | refine w_callD ?_ | refine w_isEs ?_ | refine w_try ?_ | refine w_seqI ?_ | refine w_comp ?_ | refine w_yes ?_ | refine w_isTy ?_ | refine w_allIn ?_ | refine w_iteT ?_ | refine w_iteF ?_ | refine w_iteNT ?_ | refine w_iteNF ?_ | refine o_w_truB ?_ | refine w_gN ?_
  | refine o_w_addI ?_ | refine o_w_sub ?_ | refine o_w_ints ?_ | refine o_w_eqI ?_ | refine o_w_neI ?_ | refine o_w_eqS ?_ | refine o_w_neS ?_ | refine o_w_eqB ?_ | refine o_w_neB ?_ | refine o_w_lenL ?_
  | refine w_dictC ?_ | refine w_mval ?_ | refine w_mown ?_ | refine w_par2 ?_ | refine w_par3 ?_ | refine o_w_gcd ?_ | refine o_w_tupleL ?_ | refine o_w_tupleT ?_ | refine o_w_augI ?_)
local macro_rules | `(tactic| walk_at "dl w2") => `(tactic| first
  | ((with_reducible refine' w_var ?ww ?_); (case ww => exact rfl))
  | ((with_reducible refine' w_aug ?ww ?_); (case ww => exact rfl))
  | ((with_reducible refine' w_append ?ww1 ?ww2 ?_); (case ww1 => exact rfl); (case ww2 => first | assumption | (simp only [List.length_cons, List.length_nil, List.length_append, List.length_map]; omega)))
  | ((with_reducible refine' w_retO ?ww ?_); (case ww => exact rfl))
  | ((with_reducible refine' w_frz ?ww ?_); (case ww => exact rfl))
  | ((with_reducible refine' w_idxO ?ww ?_); (case ww => exact rfl))
  | ((with_reducible refine' w_lenO ?ww ?_); (case ww => exact rfl))
  | ((with_reducible refine' w_item ?ww ?_); (case ww => exact rfl))
  | ((with_reducible refine' w_pen0 ?ww ?_); (case ww => exact rfl))
  | ((with_reducible refine' w_pen1 ?ww ?_); (case ww => exact rfl))
  | ((with_reducible refine' w_pen2 ?ww ?_); (case ww => exact rfl))
  | ((with_reducible refine' w_spen1 ?ww ?_); (case ww => exact rfl))
  | ((with_reducible refine' w_spen2 ?ww ?_); (case ww => exact rfl))
  | ((with_reducible refine' o_w_mulI ?ww1 ?ww2 ?_); (case ww1 => walk_at "dl w_small"); (case ww2 => walk_at "dl w_small"))
  | ((with_reducible refine' o_w_pow ?ww1 ?ww2 ?ww3 ?_); (case ww1 => decide); (case ww2 => decide); (case ww3 => walk_at "dl w_small"))
  | ((with_reducible refine' o_w_addL ?ww ?_); (case ww => first | assumption | (simp only [List.length_cons, List.length_nil, List.length_append, List.length_map]; omega)))
  | ((with_reducible show wR (lAdd _ _ _ _) _ _); refine w_lAdd ?_)
  | ((with_reducible refine' o_w_ty true ?ww ?_); (case ww => exact rfl))
  | ((with_reducible refine' o_w_ty false ?ww ?_); (case ww => exact rfl))
  | ((with_reducible refine' o_w_mod ?ww ?_); (case ww => first | assumption | decide | omega))
  | ((with_reducible refine' o_w_fdiv ?ww1 ?ww2 ?_); (case ww1 => first | assumption | decide | omega); (case ww2 => walk_at "dl w_small"))
  | ((with_reducible show (∃ _, _)); refine ⟨_, rfl, ?_⟩)
  | ((with_reducible show (∃ _, _)); (refine' ex_pl ?ww2 ?_); (case ww2 => (simp only [List.length_cons, List.length_nil]; omega)))
  | ((with_reducible show (∃ _, _)); refine ⟨_, _, rfl, ?_⟩)
  | ((with_reducible show (∃ _, _)); refine ⟨_, _, rfl, rfl, ?_⟩)
  | ((with_reducible refine' o_w_some _ ?ww ?_); (case ww => exact rfl)))
local macro_rules | `(tactic| walk_at "dl w_T") => `(tactic| (refine w_iteOT (decide_eq_true ?_) ?_; (· first | omega | assumption)))
local macro_rules | `(tactic| walk_at "dl w_F") => `(tactic| (refine w_iteOF (decide_eq_false ?_) ?_; (· first | omega | assumption)))
local macro_rules | `(tactic| walk_at "dl w_D") => `(tactic| first | (refine w_iteOT rfl ?_) | (refine w_iteOF rfl ?_))
local macro_rules | `(tactic| walk_at "dl wgo") => `(tactic| repeat (first | walk_at "dl w1" | walk_at "dl w2"))
local macro_rules | `(tactic| walk_at "dl w_small") => `(tactic| first | decide | (exact Nat.lt_of_lt_of_le (by omega) (show 2 ^ 64 ≤ 2 ^ 4000 from Nat.pow_le_pow_right (by decide) (by decide))) | omega)
def topS (i : Nat) : Stmt := PySem.Challenge.pw_humpcodes_k39_whole_blocks_of_products.main.body.getD i (.Pass ⟨0, 0, 0, 0⟩)
abbrev S_law_open : Stmt := topS 27
abbrev N_law_open : List Str := ["script", "cells", "k", "cell"]
theorem sc_law_open : FnScope N_law_open ["script"] (defScope S_law_open) := ⟨rfl, rfl, rfl, by decide +kernel, rfl, by decide +kernel, by decide +kernel⟩
abbrev S_law_anew : Stmt := topS 28
abbrev N_law_anew : List Str := ["pen"]
theorem sc_law_anew : FnScope N_law_anew ["pen"] (defScope S_law_anew) := ⟨rfl, rfl, rfl, by decide +kernel, rfl, by decide +kernel, by decide +kernel⟩
abbrev S_law_spread : Stmt := topS 26
abbrev N_law_spread : List Str := ["cell", "at", "primes", "mixed", "one", "two", "three"]
theorem sc_law_spread : FnScope N_law_spread ["cell", "at"] (defScope S_law_spread) := ⟨rfl, rfl, rfl, by decide +kernel, rfl, by decide +kernel, by decide +kernel⟩
abbrev S_law_take : Stmt := topS 29
abbrev N_law_take : List Str := ["pen", "many", "found", "at", "cell"]
theorem sc_law_take : FnScope N_law_take ["pen", "many"] (defScope S_law_take) := ⟨rfl, rfl, rfl, by decide +kernel, rfl, by decide +kernel, by decide +kernel⟩
abbrev S_law_one : Stmt := topS 30
abbrev N_law_one : List Str := ["pen", "some"]
theorem sc_law_one : FnScope N_law_one ["pen", "some"] (defScope S_law_one) := ⟨rfl, rfl, rfl, by decide +kernel, rfl, by decide +kernel, by decide +kernel⟩
abbrev S_law_letters : Stmt := topS 37
abbrev N_law_letters : List Str := ["pen", "size", "usual", "k"]
theorem sc_law_letters : FnScope N_law_letters ["pen", "size"] (defScope S_law_letters) := ⟨rfl, rfl, rfl, by decide +kernel, rfl, by decide +kernel, by decide +kernel⟩
abbrev S_law_root : Stmt := topS 35
abbrev N_law_root : List Str := ["word", "sizes", "size"]
theorem sc_law_root : FnScope N_law_root ["word"] (defScope S_law_root) := ⟨rfl, rfl, rfl, by decide +kernel, rfl, by decide +kernel, by decide +kernel⟩
abbrev S_law_compare : Stmt := topS 32
abbrev N_law_compare : List Str := ["first", "second", "flips", "one", "other", "less"]
theorem sc_law_compare : FnScope N_law_compare ["first", "second"] (defScope S_law_compare) := ⟨rfl, rfl, rfl, by decide +kernel, rfl, by decide +kernel, by decide +kernel⟩
abbrev S_law_greatest_turn : Stmt := topS 36
abbrev N_law_greatest_turn : List Str := ["word", "found", "k", "turn"]
theorem sc_law_greatest_turn : FnScope N_law_greatest_turn ["word"] (defScope S_law_greatest_turn) := ⟨rfl, rfl, rfl, by decide +kernel, rfl, by decide +kernel, by decide +kernel⟩
abbrev S_law_product : Stmt := topS 34
abbrev N_law_product : List Str := ["first", "second", "letter", "start", "found"]
theorem sc_law_product : FnScope N_law_product ["first", "second"] (defScope S_law_product) := ⟨rfl, rfl, rfl, by decide +kernel, rfl, by decide +kernel, by decide +kernel⟩
abbrev S_law_draw : Stmt := topS 38
abbrev N_law_draw : List Str := ["pen", "most", "word", "code", "sort_of", "small"]
theorem sc_law_draw : FnScope N_law_draw ["pen", "most"] (defScope S_law_draw) := ⟨rfl, rfl, rfl, by decide +kernel, rfl, by decide +kernel, by decide +kernel⟩
abbrev S_is_code : Stmt := topS 8
abbrev N_is_code : List Str := ["value", "letter"]
theorem sc_is_code : FnScope N_is_code ["value"] (defScope S_is_code) := ⟨rfl, rfl, rfl, by decide +kernel, rfl, by decide +kernel, by decide +kernel⟩
abbrev S_require_code : Stmt := topS 9
abbrev N_require_code : List Str := ["value"]
theorem sc_require_code : FnScope N_require_code ["value"] (defScope S_require_code) := ⟨rfl, rfl, rfl, by decide +kernel, rfl, by decide +kernel, by decide +kernel⟩
abbrev S_is_odd : Stmt := topS 12
abbrev N_is_odd : List Str := ["letters"]
theorem sc_is_odd : FnScope N_is_odd ["letters"] (defScope S_is_odd) := ⟨rfl, rfl, rfl, by decide +kernel, rfl, by decide +kernel, by decide +kernel⟩
abbrev S_turned : Stmt := topS 24
abbrev N_turned : List Str := ["letters", "start", "letter"]
theorem sc_turned : FnScope N_turned ["letters", "start"] (defScope S_turned) := ⟨rfl, rfl, rfl, by decide +kernel, rfl, by decide +kernel, by decide +kernel⟩
abbrev S_joined : Stmt := topS 23
abbrev N_joined : List Str := ["first", "second", "start", "letter"]
theorem sc_joined : FnScope N_joined ["first", "second"] (defScope S_joined) := ⟨rfl, rfl, rfl, by decide +kernel, rfl, by decide +kernel, by decide +kernel⟩
abbrev S_product : Stmt := topS 22
abbrev N_product : List Str := ["first", "second"]
theorem sc_product : FnScope N_product ["first", "second"] (defScope S_product) := ⟨rfl, rfl, rfl, by decide +kernel, rfl, by decide +kernel, by decide +kernel⟩
abbrev S_order : Stmt := topS 13
abbrev N_order : List Str := ["first", "second", "sign", "one", "other"]
theorem sc_order : FnScope N_order ["first", "second"] (defScope S_order) := ⟨rfl, rfl, rfl, by decide +kernel, rfl, by decide +kernel, by decide +kernel⟩
abbrev S_first_greater : Stmt := topS 15
abbrev N_first_greater : List Str := ["letters", "index"]
theorem sc_first_greater : FnScope N_first_greater ["letters"] (defScope S_first_greater) := ⟨rfl, rfl, rfl, by decide +kernel, rfl, by decide +kernel, by decide +kernel⟩
abbrev S_is_admissible_code : Stmt := topS 10
abbrev N_is_admissible_code : List Str := ["value"]
theorem sc_is_admissible_code : FnScope N_is_admissible_code ["value"] (defScope S_is_admissible_code) := ⟨rfl, rfl, rfl, by decide +kernel, rfl, by decide +kernel, by decide +kernel⟩
abbrev S_require_admissible : Stmt := topS 11
abbrev N_require_admissible : List Str := ["value"]
theorem sc_require_admissible : FnScope N_require_admissible ["value"] (defScope S_require_admissible) := ⟨rfl, rfl, rfl, by decide +kernel, rfl, by decide +kernel, by decide +kernel⟩
abbrev S_order_key : Stmt := topS 14
abbrev N_order_key : List Str := ["code", "numbers", "sign", "letter"]
theorem sc_order_key : FnScope N_order_key ["code"] (defScope S_order_key) := ⟨rfl, rfl, rfl, by decide +kernel, rfl, by decide +kernel, by decide +kernel⟩
abbrev S_ascending_points : Stmt := topS 19
abbrev N_ascending_points : List Str := ["code", "point"]
theorem sc_ascending_points : FnScope N_ascending_points ["code"] (defScope S_ascending_points) := ⟨rfl, rfl, rfl, by decide +kernel, rfl, by decide +kernel, by decide +kernel⟩
abbrev S_positions : Stmt := topS 17
abbrev N_positions : List Str := ["code", "places", "place", "point"]
theorem sc_positions : FnScope N_positions ["code"] (defScope S_positions) := ⟨rfl, rfl, rfl, by decide +kernel, rfl, by decide +kernel, by decide +kernel⟩
abbrev S_permutation : Stmt := topS 18
abbrev N_permutation : List Str := ["code", "places", "moves", "place", "target"]
theorem sc_permutation : FnScope N_permutation ["code"] (defScope S_permutation) := ⟨rfl, rfl, rfl, by decide +kernel, rfl, by decide +kernel, by decide +kernel⟩
abbrev S_law : Stmt := topS 39
abbrev N_law : List Str := ["script", "pen", "turn", "first", "second", "block", "inner", "offset", "entries", "whole", "size", "place", "step", "k"]
theorem sc_law : FnScope N_law ["script"] (defScope S_law) := ⟨rfl, rfl, rfl, by decide +kernel, rfl, by decide +kernel, by decide +kernel⟩
/-! ### what each def does -/
def b_law_open : SS := (sSeq (sSetO 1 (lList (eSlice (eVar 0) oNone (oSome (eK (.int 12))))))
  (sSeq (sFor (iEnum (eSlice (eVar 0) (oSome (eK (.int 12))) (oSome (eK (.int 63))))) (gT 2 (gsC (gN 2) (gsC (gN 3) gsN)))
  (sItem 1 (lift2 dMod (eVar 2) (eK (.int 12))) (lift2 dAdd (eIdxO 1 (lift2 dMod (eVar 2) (eK (.int 12)))) (eVar 3))))
  (sRetPen 1 0 0)))
def m_law_open : Mu := runF 4 b_law_open
def b_law_anew : SS := (sSeq (sPen 0 2 (eK (.int 0)))
  (sRet (eVar 0)))
def m_law_anew : Mu := runF 1 b_law_anew
def b_law_spread : SS := (sSeq (sIf (asB (lift2 dGe (eVar 0) (lift2 dPow (eK (.int 10)) (eK (.int 18)))))
  (sRet (eVar 0))
  sSkip)
  (sSeq (sSet 2 (eFrz (lDisp (aCons (eK (.int 2147483629)) (aCons (eK (.int 2147483587)) (aCons (eK (.int 2147483579)) (aCons (eK (.int 2147483563)) (aCons (eK (.int 2147483549)) (aCons (eK (.int 2147483543)) (aCons (eK (.int 2147483497)) aNil))))))))))
  (sSeq (sSet 2 (lift2 dAdd (eVar 2) (eFrz (lDisp (aCons (eK (.int 2147483489)) (aCons (eK (.int 2147483477)) (aCons (eK (.int 2147483423)) (aCons (eK (.int 2147483399)) (aCons (eK (.int 2147483353)) (aCons (eK (.int 2147483323)) aNil))))))))))
  (sSeq (sSet 3 (lift2 dAdd (lift2 dAdd (lift2 dMul (lift2 dMod (eVar 0) (eK (.int 1000000007))) (lift2 dAdd (lift2 dMul (eK (.int 2)) (eVar 1)) (eK (.int 69069)))) (lift2 dMul (eVar 1) (eK (.int 40503)))) (eK (.int 977))))
  (sSeq (sSet 4 (lift2 dMod (lift2 dPow (eVar 3) (eK (.int 3))) (lift2 dIdx (eVar 2) (lift2 dMod (eVar 1) (eK (.int 13))))))
  (sSeq (sSet 5 (lift2 dMod (lift2 dPow (lift2 dAdd (lift2 dAdd (lift2 dMul (eVar 4) (lift2 dAdd (eVar 1) (eK (.int 3)))) (lift2 dMod (eVar 0) (eK (.int 65537)))) (eK (.int 5))) (eK (.int 5))) (lift2 dIdx (eVar 2) (lift2 dMod (lift2 dAdd (eVar 1) (eK (.int 5))) (eK (.int 13))))))
  (sSeq (sSet 6 (lift2 dMod (lift2 dPow (lift2 dAdd (lift2 dAdd (eVar 5) (lift2 dMod (eVar 4) (eK (.int 1009)))) (eVar 1)) (eK (.int 3))) (lift2 dIdx (eVar 2) (lift2 dMod (lift2 dAdd (eVar 1) (eK (.int 7))) (eK (.int 13))))))
  (sRet (lift2 dAdd (lift2 dMul (lift2 dAdd (lift2 dMul (eVar 4) (eK (.int 2147483647))) (eVar 5)) (eK (.int 2147483647))) (eVar 6))))))))))
def m_law_spread : Mu := runF 7 b_law_spread
def b_law_take : SS := (sSeq (sIf (asB (lift2 dLt (ePen 0 2) (eVar 1)))
  (sSeq (sSet 3 (ePen 0 1))
  (sSeq (sSet 4 (eK (.int 0)))
  (sSeq (sIf (asB (lift2 dLt (eVar 3) (liftC bLen (aCons (ePen 0 0) aNil))))
  (sSet 4 (lift2 dIdx (ePen 0 0) (eVar 3)))
  (sIf (asB (lift2 dGt (liftC bLen (aCons (ePen 0 0) aNil)) (eK (.int 0))))
  (sSet 4 (lift2 dMod (lift2 dIdx (ePen 0 0) (lift2 dMod (lift2 dAdd (lift2 dMul (eVar 3) (eK (.int 5))) (eK (.int 3))) (liftC bLen (aCons (ePen 0 0) aNil)))) (lift2 dAdd (lift2 dPow (eK (.int 10)) (eK (.int 17))) (eVar 3))))
  sSkip))
  (sSeq (sPen 0 1 (lift2 dAdd (eVar 3) (eK (.int 1))))
  (sPen 0 2 (eCall m_law_spread (aCons (eVar 4) (aCons (eVar 3) aNil))))))))
  sSkip)
  (sSeq (sSet 2 (lift2 dMod (ePen 0 2) (eVar 1)))
  (sSeq (sPen 0 2 (lift2 dFdiv (ePen 0 2) (eVar 1)))
  (sRet (eVar 2)))))
def m_law_take : Mu := runF 5 b_law_take
def b_law_one : SS := (sRet (lift2 dIdx (eVar 1) (eCall m_law_take (aCons (eVar 0) (aCons (liftC bLen (aCons (eVar 1) aNil)) aNil)))))
def m_law_one : Mu := runF 2 b_law_one
def b_law_letters : SS := (sSeq (sSet 2 (eCall m_law_one (aCons (eVar 0) (aCons (eFrz (lDisp (aCons (eK (.str "LR")) (aCons (eK (.str "LR")) (aCons (eK (.str "RRL")) (aCons (eK (.str "LLR")) (aCons (eK (.str "RRRRRL")) (aCons (eK (.str "LLLLLLR")) aNil)))))))) aNil))))
  (sRet (liftMS mJoin (eK (.str "")) (aCons (eFrz (lComp (iRange (aCons (eVar 1) aNil)) (gN 3) tYesF (eCall m_law_one (aCons (eVar 0) (aCons (eVar 2) aNil))) [3])) aNil))))
def m_law_letters : Mu := runF 4 b_law_letters
def b_law_root : SS := (sSeq (sSet 1 (eFrz (lComp (iRange (aCons (eK (.int 1)) (aCons (lift2 dAdd (liftC bLen (aCons (eVar 0) aNil)) (eK (.int 1))) aNil))) (gN 2) (asB (lift2 dEq (eVar 0) (lift2 dMul (eSlice (eVar 0) oNone (oSome (eVar 2))) (lift2 dFdiv (liftC bLen (aCons (eVar 0) aNil)) (eVar 2))))) (eVar 2) [2])))
  (sRet (eSlice (eVar 0) oNone (oSome (lift2 dIdx (eVar 1) (eK (.int 0)))))))
def m_law_root : Mu := runF 3 b_law_root
def b_law_compare : SS := (sSeq (sSet 2 (eK (.int 0)))
  (sSeq (sFor (iZip (aCons (eVar 0) (aCons (eVar 1) aNil))) (gT 2 (gsC (gN 3) (gsC (gN 4) gsN)))
  (sSeq (sIf (asB (lift2 dNe (eVar 3) (eVar 4)))
  (sSeq (sSet 5 (lift2 dLt (liftMS mIndex (eK (.str "LCR")) (aCons (eVar 3) aNil)) (liftMS mIndex (eK (.str "LCR")) (aCons (eVar 4) aNil))))
  (sRet (eIf (asB (lift2 dEq (eVar 5) (lift2 dEq (lift2 dMod (eVar 2) (eK (.int 2))) (eK (.int 0))))) (eNeg (eK (.int 1))) (eK (.int 1)))))
  sSkip)
  (sSet 2 (lift2 dAdd (eVar 2) (liftC bInt (aCons (lift2 dEq (eVar 3) (eK (.str "R"))) aNil))))))
  (sRet (eK (.int 0)))))
def m_law_compare : Mu := runF 6 b_law_compare
def b_law_greatest_turn : SS := (sSeq (sSet 1 (eVar 0))
  (sSeq (sFor (iRange (aCons (liftC bLen (aCons (eVar 0) aNil)) aNil)) (gN 2)
  (sSeq (sSet 3 (lift2 dAdd (eSlice (eVar 0) (oSome (eVar 2)) oNone) (eSlice (eVar 0) oNone (oSome (eVar 2)))))
  (sIf (asB (lift2 dGt (eCall m_law_compare (aCons (lift2 dMul (eVar 3) (eK (.int 2))) (aCons (lift2 dMul (eVar 1) (eK (.int 2))) aNil))) (eK (.int 0))))
  (sSet 1 (eVar 3))
  sSkip)))
  (sRet (eVar 1))))
def m_law_greatest_turn : Mu := runF 4 b_law_greatest_turn
def b_law_product : SS := (sSeq (sPar 3 4 (aCons (eSlice (eVar 0) oNone (oSome (eNeg (eK (.int 1))))) (aCons (eK (.str "")) aNil)))
  (sSeq (sFor (iSeq (eVar 1)) (gN 2)
  (sSeq (sIf (tAndF (asB (lift2 dNe (eVar 2) (eK (.str "C")))) (asB (lift2 dEq (lift2 dMod (liftMS mCount (eVar 3) (aCons (eK (.str "R")) aNil)) (eK (.int 2))) (eK (.int 1)))))
  (sSet 2 (lift2 dIdx (eK (.str "LR")) (liftC bInt (aCons (lift2 dEq (eVar 2) (eK (.str "L"))) aNil))))
  sSkip)
  (sSet 4 (lift2 dAdd (lift2 dAdd (eVar 4) (eVar 3)) (eVar 2)))))
  (sRet (eVar 4))))
def m_law_product : Mu := runF 5 b_law_product
def b_law_draw : SS := (sSeq (sSet 2 (eCall m_law_root (aCons (eCall m_law_letters (aCons (eVar 0) (aCons (lift2 dAdd (eK (.int 1)) (eCall m_law_take (aCons (eVar 0) (aCons (eVar 1) aNil)))) aNil))) aNil)))
  (sSeq (sSet 3 (lift2 dAdd (eSlice (eCall m_law_greatest_turn (aCons (eVar 2) aNil)) oNone (oSome (eNeg (eK (.int 1))))) (eK (.str "C"))))
  (sSeq (sSet 4 (eCall m_law_take (aCons (eVar 0) (aCons (eK (.int 4)) aNil))))
  (sSeq (sIf (tAndF (asB (lift2 dEq (eVar 4) (eK (.int 0)))) (asB (lift2 dLe (lift2 dMul (eK (.int 2)) (liftC bLen (aCons (eVar 3) aNil))) (eVar 1))))
  (sRet (eCall m_law_product (aCons (eK (.str "RC")) (aCons (eVar 3) aNil))))
  sSkip)
  (sSeq (sIf (tAndF (asB (lift2 dEq (eVar 4) (eK (.int 1)))) (asB (lift2 dLe (lift2 dMul (liftC bLen (aCons (eVar 3) aNil)) (eK (.int 2))) (eVar 1))))
  (sSeq (sSet 5 (eCall m_law_one (aCons (eVar 0) (aCons (eFrz (lDisp (aCons (eK (.str "RC")) (aCons (eK (.str "RLC")) (aCons (eK (.str "RLLC")) (aCons (eK (.str "RLRC")) (aCons (eK (.str "RLRRC")) aNil))))))) aNil))))
  (sSet 3 (eIf (asB (lift2 dLe (lift2 dMul (liftC bLen (aCons (eVar 3) aNil)) (liftC bLen (aCons (eVar 5) aNil))) (eVar 1))) (eCall m_law_product (aCons (eVar 3) (aCons (eVar 5) aNil))) (eCall m_law_product (aCons (eVar 3) (aCons (eK (.str "RC")) aNil))))))
  sSkip)
  (sRet (eVar 3)))))))
def m_law_draw : Mu := runF 6 b_law_draw
def b_is_code : SS := (sSeq (sIf (tOrF (tNotF (asT (eIsTy "str" (eVar 0)))) (tNotF (asB (eChain dLe dLe (eK (.int 1)) (liftC bLen (aCons (eVar 0) aNil)) (eK (.int 40))))))
  (sRet (eK (.bool false)))
  sSkip)
  (sRet (eAnd (lift2 dEq (lift2 dIdx (eVar 0) (eNeg (eK (.int 1)))) (eK (.str "C"))) (eAllIn "LR" (eSlice (eVar 0) oNone (oSome (eNeg (eK (.int 1)))))))))
def m_is_code : Mu := runF 2 b_is_code
def b_require_code : SS := (sIf (tNotF (asT (eCall m_is_code (aCons (eVar 0) aNil))))
  (sRaise "NotACode")
  sSkip)
def m_require_code : Mu := runF 1 b_require_code
def b_is_odd : SS := (sRet (lift2 dEq (lift2 dMod (liftMS mCount (eVar 0) (aCons (eK (.str "R")) aNil)) (eK (.int 2))) (eK (.int 1))))
def m_is_odd : Mu := runF 1 b_is_odd
def b_turned : SS := (sSeq (sIf (tNotF (asT (eCall m_is_odd (aCons (eVar 1) aNil))))
  (sRet (eVar 0))
  sSkip)
  (sRet (liftMS mJoin (eK (.str "")) (aCons (eFrz (lComp (iSeq (eVar 0)) (gN 2) tYesF (eGdict [("L", "R"), ("C", "C"), ("R", "L")] (eVar 2)) [2])) aNil))))
def m_turned : Mu := runF 3 b_turned
def b_joined : SS := (sSeq (sSet 2 (eSlice (eVar 0) oNone (oSome (eNeg (eK (.int 1))))))
  (sRet (liftMS mJoin (eK (.str "")) (aCons (eFrz (lComp (iSeq (eCall m_turned (aCons (eVar 1) (aCons (eVar 2) aNil)))) (gN 3) tYesF (lift2 dAdd (eVar 2) (eVar 3)) [3])) aNil))))
def m_joined : Mu := runF 4 b_joined
def b_product : SS := (sSeq (sExpr (eCall m_require_code (aCons (eVar 0) aNil)))
  (sSeq (sExpr (eCall m_require_code (aCons (eVar 1) aNil)))
  (sSeq (sIf (asB (lift2 dGt (lift2 dMul (liftC bLen (aCons (eVar 0) aNil)) (liftC bLen (aCons (eVar 1) aNil))) (eK (.int 40))))
  (sRaise "TooLong")
  sSkip)
  (sRet (eCall m_joined (aCons (eVar 0) (aCons (eVar 1) aNil)))))))
def m_product : Mu := runF 2 b_product
def b_order : SS := (sSeq (sSet 2 (eK (.int 1)))
  (sSeq (sFor (iZip (aCons (eVar 0) (aCons (eVar 1) aNil))) (gT 2 (gsC (gN 3) (gsC (gN 4) gsN)))
  (sSeq (sIf (asB (lift2 dNe (eVar 3) (eVar 4)))
  (sRet (eIf (asB (lift2 dGt (liftMS mIndex (eK (.str "LCR")) (aCons (eVar 3) aNil)) (liftMS mIndex (eK (.str "LCR")) (aCons (eVar 4) aNil)))) (eVar 2) (eNeg (eVar 2))))
  sSkip)
  (sIf (asB (lift2 dEq (eVar 3) (eK (.str "R"))))
  (sSet 2 (eNeg (eVar 2)))
  sSkip)))
  (sRet (eK (.int 0)))))
def m_order : Mu := runF 5 b_order
def b_first_greater : SS := (sSeq (sFor (iRange (aCons (eK (.int 1)) (aCons (liftC bLen (aCons (eVar 0) aNil)) aNil))) (gN 1)
  (sIf (asB (lift2 dGt (eCall m_order (aCons (eSlice (eVar 0) (oSome (eVar 1)) oNone) (aCons (eVar 0) aNil))) (eK (.int 0))))
  (sRet (eVar 1))
  sSkip))
  (sRet (eK .none)))
def m_first_greater : Mu := runF 2 b_first_greater
def b_is_admissible_code : SS := (sRet (eAnd (eCall m_is_code (aCons (eVar 0) aNil)) (lift2 dIsN (eCall m_first_greater (aCons (eVar 0) aNil)) (eK .none))))
def m_is_admissible_code : Mu := runF 1 b_is_admissible_code
def b_require_admissible : SS := (sIf (tNotF (asT (eCall m_is_admissible_code (aCons (eVar 0) aNil))))
  (sRaise "NotAdmissible")
  sSkip)
def m_require_admissible : Mu := runF 1 b_require_admissible
def b_order_key : SS := (sSeq (sSetO 1 (lDisp aNil))
  (sSeq (sSet 2 (eK (.int 1)))
  (sSeq (sFor (iSeq (eVar 0)) (gN 3)
  (sSeq (sAppend 1 (lift2 dMul (eVar 2) (lift2 dSub (liftMS mIndex (eK (.str "LCR")) (aCons (eVar 3) aNil)) (eK (.int 1)))))
  (sIf (asB (lift2 dEq (eVar 3) (eK (.str "R"))))
  (sSet 2 (eNeg (eVar 2)))
  sSkip)))
  (sRetO 1))))
def m_order_key : Mu := runF 4 b_order_key
def b_ascending_points : SS := (sRet (eFrz (lSortK (liftC bLen (aCons (eVar 0) aNil)) 1 (eCall m_order_key (aCons (eSlice (eVar 0) (oSome (eVar 1)) oNone) aNil)))))
def m_ascending_points : Mu := runF 2 b_ascending_points
def b_positions : SS := (sSeq (sExpr (eCall m_require_admissible (aCons (eVar 0) aNil)))
  (sSeq (sSetO 1 (lMul (eFrz (lDisp (aCons (eK (.int 0)) aNil))) (liftC bLen (aCons (eVar 0) aNil))))
  (sSeq (sFor (iEnumX (eCall m_ascending_points (aCons (eVar 0) aNil))) (gT 2 (gsC (gN 2) (gsC (gN 3) gsN)))
  (sItem 1 (eVar 3) (eVar 2)))
  (sFrz 1 (sRet (liftC bTuple (aCons (eVar 1) aNil)))))))
def m_positions : Mu := runF 4 b_positions
def b_permutation : SS := (sSeq (sSet 1 (eCall m_positions (aCons (eVar 0) aNil)))
  (sSeq (sSetO 2 (lMul (eFrz (lDisp (aCons (eK (.int 0)) aNil))) (liftC bLen (aCons (eVar 1) aNil))))
  (sSeq (sFor (iZipX (aCons (eVar 1) (aCons (lift2 dAdd (eSlice (eVar 1) (oSome (eK (.int 1))) oNone) (eSlice (eVar 1) oNone (oSome (eK (.int 1))))) aNil))) (gT 2 (gsC (gN 3) (gsC (gN 4) gsN)))
  (sItem 2 (eVar 3) (eVar 4)))
  (sFrz 2 (sRet (liftC bTuple (aCons (eVar 2) aNil)))))))
def m_permutation : Mu := runF 5 b_permutation
def b_law : SS := (sSeq (sSet 1 (eCall m_law_open (aCons (eVar 0) aNil)))
  (sSeq (sFor (iRange (aCons (eK (.int 4)) aNil)) (gN 2)
  (sSeq (sSet 3 (eCall m_law_draw (aCons (eCall m_law_anew (aCons (eVar 1) aNil)) (aCons (eK (.int 10)) aNil))))
  (sSeq (sSet 4 (eCall m_law_draw (aCons (eVar 1) (aCons (lift2 dFdiv (eK (.int 40)) (liftC bLen (aCons (eVar 3) aNil))) aNil))))
  (sSeq (sUnp (gTL 3 (gsC (gN 8) (gsC (gN 9) (gsC (gN 10) gsN)))) (eTup (aCons (eCall m_permutation (aCons (eVar 3) aNil)) (aCons (eCall m_permutation (aCons (eCall m_product (aCons (eVar 3) (aCons (eVar 4) aNil))) aNil)) (aCons (liftC bLen (aCons (eVar 4) aNil)) aNil)))))
  (sSeq (sIf (asB (lift2 dNe (eFrz (lComp (iRange (aCons (liftC bLen (aCons (eVar 9) aNil)) aNil)) (gN 11) tYesF (lift2 dFdiv (lift2 dIdx (eVar 9) (eVar 11)) (eVar 10)) [11])) (eFrz (lComp (iRange (aCons (liftC bLen (aCons (eVar 9) aNil)) aNil)) (gN 13) tYesF (lift2 dIdx (eVar 8) (lift2 dFdiv (eVar 13) (eVar 10))) [13]))))
  (sRet (eK (.bool false)))
  sSkip)
  (sSeq (sSet 5 (lift2 dIdx (eCall m_positions (aCons (eVar 3) aNil)) (lift2 dSub (liftC bLen (aCons (eVar 3) aNil)) (eK (.int 1)))))
  (sSeq (sSetO 6 (lDisp aNil))
  (sSeq (sFor (iRange (aCons (eVar 10) aNil)) (gN 7)
  (sSeq (sSet 11 (lift2 dAdd (lift2 dMul (eVar 5) (eVar 10)) (eVar 7)))
  (sSeq (sFor (iRange (aCons (liftC bLen (aCons (eVar 3) aNil)) aNil)) (gN 12)
  (sSet 11 (lift2 dIdx (eVar 9) (eVar 11))))
  (sAppend 6 (lift2 dSub (eVar 11) (lift2 dMul (eVar 5) (eVar 10)))))))
  (sSeq (sFrz 6 (sIf (asB (lift2 dEq (lift2 dMod (liftMS mCount (eSlice (eVar 3) oNone (oSome (eNeg (eK (.int 1))))) (aCons (eK (.str "R")) aNil)) (eK (.int 2))) (eK (.int 1))))
  (sSet 6 (eFrz (lComp (iSeq (eRevL (eVar 6))) (gN 7) tYesF (lift2 dSub (lift2 dSub (eVar 10) (eK (.int 1))) (eVar 7)) [7])))
  sSkip))
  (sIf (asB (lift2 dNe (liftC bTuple (aCons (eVar 6) aNil)) (eCall m_permutation (aCons (eVar 4) aNil))))
  (sRet (eK (.bool false)))
  sSkip))))))))))
  (sRet (eK (.bool true)))))
def m_law : Mu := runF 14 b_law
/-! ### .. and that it does so -/
section
variable {P : Program} {w : World} {K : PySem.W.Frag} {mg : Str → Option Value} {base : Heap} {tb : Tb}
theorem ok_law_open {f : Addr} {fd : FuncData} (A : At K mg "_law_open" S_law_open ["script"] f fd) (z_enumerate : mg "enumerate" = none) (z_list : mg "list" = none) : Def P w K mg base tb 1 "_law_open" ["script"] m_law_open := by
  refine ⟨f, fd, ?_, A.g, A.F.kp, A.b⟩
  have sc := sc_law_open
  refine fng_of (N := N_law_open) A.F sc fun cdv hcd A' outer s H E W0 hr gd => ?_
  have hu := hr.units
  have tk : Takes (cxOf (L2.CX P w) P w K mg base N_law_open "_law_open" (defScope S_law_open) f cdv A' outer s H E) (fun c d _ H' => E c d H') := takes_of rfl rfl rfl rfl
  have po : PassesOwn (model P w) (A'.deeper (envOfC "_law_open" (defScope S_law_open) s.heap.objs.size f cdv)) (envOfC "_law_open" (defScope S_law_open) s.heap.objs.size f cdv) (cxOf (L2.CX P w) P w K mg base N_law_open "_law_open" (defScope S_law_open) f cdv A' outer s H E).xe := passes_of rfl
  exact (s_cons (s_setO 1 sc.nd (l_list z_list (e_slice (e_var 0) o_none (o_some e_int))))
  (s_cons (s_for po rfl (i_enum z_enumerate (e_slice (e_var 0) (o_some e_int) (o_some e_int))) (pg_tup rfl (pgs_cons (pg_name sc.nd rfl (by first | exact Or.inl rfl | exact Or.inr rfl)) (pgs_cons (pg_name sc.nd rfl (by first | exact Or.inl rfl | exact Or.inr rfl)) pgs_nil))) (gd_tupW (gds_cons (gd_name 2) (gds_cons (gd_name 3) gds_nil)))
  (s_one (s_item 1 (e_bin o_add (e_idxO 1 (e_bin o_mod (e_var 2) e_int)) (e_var 3)) (e_bin o_mod (e_var 2) e_int))))
  (s_one (s_retPen 1))))
theorem ok_law_anew {f : Addr} {fd : FuncData} (A : At K mg "_law_anew" S_law_anew ["pen"] f fd) : Def P w K mg base tb 1 "_law_anew" ["pen"] m_law_anew := by
  refine ⟨f, fd, ?_, A.g, A.F.kp, A.b⟩
  have sc := sc_law_anew
  refine fng_of (N := N_law_anew) A.F sc fun cdv hcd A' outer s H E W0 hr gd => ?_
  have hu := hr.units
  have tk : Takes (cxOf (L2.CX P w) P w K mg base N_law_anew "_law_anew" (defScope S_law_anew) f cdv A' outer s H E) (fun c d _ H' => E c d H') := takes_of rfl rfl rfl rfl
  have po : PassesOwn (model P w) (A'.deeper (envOfC "_law_anew" (defScope S_law_anew) s.heap.objs.size f cdv)) (envOfC "_law_anew" (defScope S_law_anew) s.heap.objs.size f cdv) (cxOf (L2.CX P w) P w K mg base N_law_anew "_law_anew" (defScope S_law_anew) f cdv A' outer s H E).xe := passes_of rfl
  exact (s_cons (s_pen 0 2 e_int)
  (s_one (s_ret (e_var 0))))
theorem ok_law_spread {f : Addr} {fd : FuncData} (A : At K mg "_law_spread" S_law_spread ["cell", "at"] f fd) : Def P w K mg base tb 1 "_law_spread" ["cell", "at"] m_law_spread := by
  refine ⟨f, fd, ?_, A.g, A.F.kp, A.b⟩
  have sc := sc_law_spread
  refine fng_of (N := N_law_spread) A.F sc fun cdv hcd A' outer s H E W0 hr gd => ?_
  have hu := hr.units
  have tk : Takes (cxOf (L2.CX P w) P w K mg base N_law_spread "_law_spread" (defScope S_law_spread) f cdv A' outer s H E) (fun c d _ H' => E c d H') := takes_of rfl rfl rfl rfl
  have po : PassesOwn (model P w) (A'.deeper (envOfC "_law_spread" (defScope S_law_spread) s.heap.objs.size f cdv)) (envOfC "_law_spread" (defScope S_law_spread) s.heap.objs.size f cdv) (cxOf (L2.CX P w) P w K mg base N_law_spread "_law_spread" (defScope S_law_spread) f cdv A' outer s H E).xe := passes_of rfl
  exact (s_cons (s_if (t_cmp o_ge (e_var 0) (e_bin o_pow e_int e_int))
  (s_one (s_ret (e_var 0)))
  s_nil)
  (s_cons (s_set 2 sc.nd (e_frz (l_disp (a_cons e_int (a_cons e_int (a_cons e_int (a_cons e_int (a_cons e_int (a_cons e_int (a_cons e_int a_nil))))))))))
  (s_cons (s_set 2 sc.nd (e_bin o_add (e_var 2) (e_frz (l_disp (a_cons e_int (a_cons e_int (a_cons e_int (a_cons e_int (a_cons e_int (a_cons e_int a_nil))))))))))
  (s_cons (s_set 3 sc.nd (e_bin o_add (e_bin o_add (e_bin o_mul (e_bin o_mod (e_var 0) e_int) (e_bin o_add (e_bin o_mul e_int (e_var 1)) e_int)) (e_bin o_mul (e_var 1) e_int)) e_int))
  (s_cons (s_set 4 sc.nd (e_bin o_mod (e_bin o_pow (e_var 3) e_int) (e_idx (e_var 2) (e_bin o_mod (e_var 1) e_int))))
  (s_cons (s_set 5 sc.nd (e_bin o_mod (e_bin o_pow (e_bin o_add (e_bin o_add (e_bin o_mul (e_var 4) (e_bin o_add (e_var 1) e_int)) (e_bin o_mod (e_var 0) e_int)) e_int) e_int) (e_idx (e_var 2) (e_bin o_mod (e_bin o_add (e_var 1) e_int) e_int))))
  (s_cons (s_set 6 sc.nd (e_bin o_mod (e_bin o_pow (e_bin o_add (e_bin o_add (e_var 5) (e_bin o_mod (e_var 4) e_int)) (e_var 1)) e_int) (e_idx (e_var 2) (e_bin o_mod (e_bin o_add (e_var 1) e_int) e_int))))
  (s_one (s_ret (e_bin o_add (e_bin o_mul (e_bin o_add (e_bin o_mul (e_var 4) e_int) (e_var 5)) e_int) (e_var 6)))))))))))
theorem ok_law_take {f : Addr} {fd : FuncData} (A : At K mg "_law_take" S_law_take ["pen", "many"] f fd) (d_law_spread : Def P w K mg base tb 1 "_law_spread" ["cell", "at"] m_law_spread) (z_len : mg "len" = none) : Def P w K mg base tb 2 "_law_take" ["pen", "many"] m_law_take := by
  refine ⟨f, fd, ?_, A.g, A.F.kp, A.b⟩
  have sc := sc_law_take
  refine fng_of (N := N_law_take) A.F sc fun cdv hcd A' outer s H E W0 hr gd => ?_
  have hu := hr.units
  have tk : Takes (cxOf (L2.CX P w) P w K mg base N_law_take "_law_take" (defScope S_law_take) f cdv A' outer s H E) (fun c d _ H' => E c d H') := takes_of rfl rfl rfl rfl
  have po : PassesOwn (model P w) (A'.deeper (envOfC "_law_take" (defScope S_law_take) s.heap.objs.size f cdv)) (envOfC "_law_take" (defScope S_law_take) s.heap.objs.size f cdv) (cxOf (L2.CX P w) P w K mg base N_law_take "_law_take" (defScope S_law_take) f cdv A' outer s H E).xe := passes_of rfl
  exact (s_cons (s_if (t_cmp o_lt (e_pen 0 2) (e_var 1))
  (s_cons (s_set 3 sc.nd (e_pen 0 1))
  (s_cons (s_set 4 sc.nd e_int)
  (s_cons (s_if (t_cmp o_lt (e_var 3) (e_callB k_len z_len PySem.boot_len (a_cons (e_pen 0 0) a_nil)))
  (s_one (s_set 4 sc.nd (e_idx (e_pen 0 0) (e_var 3))))
  (s_one (s_if (t_cmp o_gt (e_callB k_len z_len PySem.boot_len (a_cons (e_pen 0 0) a_nil)) e_int)
  (s_one (s_set 4 sc.nd (e_bin o_mod (e_idx (e_pen 0 0) (e_bin o_mod (e_bin o_add (e_bin o_mul (e_var 3) e_int) e_int) (e_callB k_len z_len PySem.boot_len (a_cons (e_pen 0 0) a_nil)))) (e_bin o_add (e_bin o_pow e_int e_int) (e_var 3)))))
  s_nil)))
  (s_cons (s_pen 0 1 (e_bin o_add (e_var 3) e_int))
  (s_one (s_pen 0 2 (e_fn d_law_spread hr gd tk (a_cons (e_var 4) (a_cons (e_var 3) a_nil)) (aCons_len (aCons_len aNil_len)))))))))
  s_nil)
  (s_cons (s_set 2 sc.nd (e_bin o_mod (e_pen 0 2) (e_var 1)))
  (s_cons (s_pen 0 2 (e_bin o_fdiv (e_pen 0 2) (e_var 1)))
  (s_one (s_ret (e_var 2))))))
theorem ok_law_one {f : Addr} {fd : FuncData} (A : At K mg "_law_one" S_law_one ["pen", "some"] f fd) (d_law_take : Def P w K mg base tb 2 "_law_take" ["pen", "many"] m_law_take) (z_len : mg "len" = none) : Def P w K mg base tb 3 "_law_one" ["pen", "some"] m_law_one := by
  refine ⟨f, fd, ?_, A.g, A.F.kp, A.b⟩
  have sc := sc_law_one
  refine fng_of (N := N_law_one) A.F sc fun cdv hcd A' outer s H E W0 hr gd => ?_
  have hu := hr.units
  have tk : Takes (cxOf (L2.CX P w) P w K mg base N_law_one "_law_one" (defScope S_law_one) f cdv A' outer s H E) (fun c d _ H' => E c d H') := takes_of rfl rfl rfl rfl
  have po : PassesOwn (model P w) (A'.deeper (envOfC "_law_one" (defScope S_law_one) s.heap.objs.size f cdv)) (envOfC "_law_one" (defScope S_law_one) s.heap.objs.size f cdv) (cxOf (L2.CX P w) P w K mg base N_law_one "_law_one" (defScope S_law_one) f cdv A' outer s H E).xe := passes_of rfl
  exact (s_one (s_ret (e_idx (e_var 1) (e_fn d_law_take hr gd tk (a_cons (e_var 0) (a_cons (e_callB k_len z_len PySem.boot_len (a_cons (e_var 1) a_nil)) a_nil)) (aCons_len (aCons_len aNil_len))))))
theorem ok_law_letters {f : Addr} {fd : FuncData} (A : At K mg "_law_letters" S_law_letters ["pen", "size"] f fd) (d_law_one : Def P w K mg base tb 3 "_law_one" ["pen", "some"] m_law_one) (z_range : mg "range" = none) : Def P w K mg base tb 4 "_law_letters" ["pen", "size"] m_law_letters := by
  refine ⟨f, fd, ?_, A.g, A.F.kp, A.b⟩
  have sc := sc_law_letters
  refine fng_of (N := N_law_letters) A.F sc fun cdv hcd A' outer s H E W0 hr gd => ?_
  have hu := hr.units
  have tk : Takes (cxOf (L2.CX P w) P w K mg base N_law_letters "_law_letters" (defScope S_law_letters) f cdv A' outer s H E) (fun c d _ H' => E c d H') := takes_of rfl rfl rfl rfl
  have po : PassesOwn (model P w) (A'.deeper (envOfC "_law_letters" (defScope S_law_letters) s.heap.objs.size f cdv)) (envOfC "_law_letters" (defScope S_law_letters) s.heap.objs.size f cdv) (cxOf (L2.CX P w) P w K mg base N_law_letters "_law_letters" (defScope S_law_letters) f cdv A' outer s H E).xe := passes_of rfl
  exact (s_cons (s_set 2 sc.nd (e_fn d_law_one hr gd tk (a_cons (e_var 0) (a_cons (e_frz (l_disp (a_cons e_str (a_cons e_str (a_cons e_str (a_cons e_str (a_cons e_str (a_cons e_str a_nil)))))))) a_nil)) (aCons_len (aCons_len aNil_len))))
  (s_one (s_ret (e_methS PySem.F.plainAttrs_str PySem.F.slot_str_join PySem.F.type_str_join m_join e_str (a_cons (e_frz (l_comp [("k", 3)] rfl sc.nd (i_range1 z_range (a_cons (e_var 1) a_nil) (aCons_len aNil_len)) (blkOk_by (N := N_law_letters) (sc := defScope S_law_letters) (by decide +kernel)) (gd_name 3) (by decide) (fun _ _ _ _ _ => (pg_name sc.nd rfl (by first | exact Or.inl rfl | exact Or.inr rfl))) (fun _ _ _ _ _ => ts_nil) (fun _ _ _ _ _ => (e_fn d_law_one hr gd takes0 (a_cons (e_var 0) (a_cons (e_var 2) a_nil)) (aCons_len (aCons_len aNil_len)))))) a_nil)))))
theorem ok_law_root {f : Addr} {fd : FuncData} (A : At K mg "_law_root" S_law_root ["word"] f fd) (z_len : mg "len" = none) (z_range : mg "range" = none) : Def P w K mg base tb 1 "_law_root" ["word"] m_law_root := by
  refine ⟨f, fd, ?_, A.g, A.F.kp, A.b⟩
  have sc := sc_law_root
  refine fng_of (N := N_law_root) A.F sc fun cdv hcd A' outer s H E W0 hr gd => ?_
  have hu := hr.units
  have tk : Takes (cxOf (L2.CX P w) P w K mg base N_law_root "_law_root" (defScope S_law_root) f cdv A' outer s H E) (fun c d _ H' => E c d H') := takes_of rfl rfl rfl rfl
  have po : PassesOwn (model P w) (A'.deeper (envOfC "_law_root" (defScope S_law_root) s.heap.objs.size f cdv)) (envOfC "_law_root" (defScope S_law_root) s.heap.objs.size f cdv) (cxOf (L2.CX P w) P w K mg base N_law_root "_law_root" (defScope S_law_root) f cdv A' outer s H E).xe := passes_of rfl
  exact (s_cons (s_setLc 1 [("size", 2)] rfl sc.nd (i_range2 z_range (a_cons e_int (a_cons (e_bin o_add (e_callB k_len z_len PySem.boot_len (a_cons (e_var 0) a_nil)) e_int) a_nil)) (aCons_len (aCons_len aNil_len))) (blkOk_by (N := N_law_root) (sc := defScope S_law_root) (by decide +kernel)) (gd_name 2) (by decide) (fun _ _ _ _ _ => (pg_name sc.nd rfl (by first | exact Or.inl rfl | exact Or.inr rfl))) (fun _ _ _ _ _ => (ts_one (t_cmp (o_eq hu) (e_var 0) (e_bin o_mul (e_slice (e_var 0) o_none (o_some (e_var 2))) (e_bin o_fdiv (e_callB k_len z_len PySem.boot_len (a_cons (e_var 0) a_nil)) (e_var 2)))))) (fun _ _ _ _ _ => (e_var 2)))
  (s_one (s_ret (e_slice (e_var 0) o_none (o_some (e_idx (e_var 1) e_int))))))
theorem ok_law_compare {f : Addr} {fd : FuncData} (A : At K mg "_law_compare" S_law_compare ["first", "second"] f fd) (z_int : mg "int" = none) (z_zip : mg "zip" = none) : Def P w K mg base tb 1 "_law_compare" ["first", "second"] m_law_compare := by
  refine ⟨f, fd, ?_, A.g, A.F.kp, A.b⟩
  have sc := sc_law_compare
  refine fng_of (N := N_law_compare) A.F sc fun cdv hcd A' outer s H E W0 hr gd => ?_
  have hu := hr.units
  have tk : Takes (cxOf (L2.CX P w) P w K mg base N_law_compare "_law_compare" (defScope S_law_compare) f cdv A' outer s H E) (fun c d _ H' => E c d H') := takes_of rfl rfl rfl rfl
  have po : PassesOwn (model P w) (A'.deeper (envOfC "_law_compare" (defScope S_law_compare) s.heap.objs.size f cdv)) (envOfC "_law_compare" (defScope S_law_compare) s.heap.objs.size f cdv) (cxOf (L2.CX P w) P w K mg base N_law_compare "_law_compare" (defScope S_law_compare) f cdv A' outer s H E).xe := passes_of rfl
  exact (s_cons (s_set 2 sc.nd e_int)
  (s_cons (s_for po rfl (i_zip z_zip (a_cons (e_var 0) (a_cons (e_var 1) a_nil))) (pg_tup rfl (pgs_cons (pg_name sc.nd rfl (by first | exact Or.inl rfl | exact Or.inr rfl)) (pgs_cons (pg_name sc.nd rfl (by first | exact Or.inl rfl | exact Or.inr rfl)) pgs_nil))) (gd_tupW (gds_cons (gd_name 3) (gds_cons (gd_name 4) gds_nil)))
  (s_cons (s_if (t_cmp (o_ne hu) (e_var 3) (e_var 4))
  (s_cons (s_set 5 sc.nd (e_cmp o_lt (e_methS PySem.F.plainAttrs_str PySem.F.slot_str_index PySem.F.type_str_index m_index e_str (a_cons (e_var 3) a_nil)) (e_methS PySem.F.plainAttrs_str PySem.F.slot_str_index PySem.F.type_str_index m_index e_str (a_cons (e_var 4) a_nil))))
  (s_one (s_ret (e_if (t_cmp (o_eq hu) (e_var 5) (e_cmp (o_eq hu) (e_bin o_mod (e_var 2) e_int) e_int)) (e_neg e_int) e_int))))
  s_nil)
  (s_one (s_set 2 sc.nd (e_bin o_add (e_var 2) (e_callT k_int z_int (by decide +kernel) (a_cons (e_cmp (o_eq hu) (e_var 3) e_str) a_nil)))))))
  (s_one (s_ret e_int))))
theorem ok_law_greatest_turn {f : Addr} {fd : FuncData} (A : At K mg "_law_greatest_turn" S_law_greatest_turn ["word"] f fd) (d_law_compare : Def P w K mg base tb 1 "_law_compare" ["first", "second"] m_law_compare) (z_len : mg "len" = none) (z_range : mg "range" = none) : Def P w K mg base tb 2 "_law_greatest_turn" ["word"] m_law_greatest_turn := by
  refine ⟨f, fd, ?_, A.g, A.F.kp, A.b⟩
  have sc := sc_law_greatest_turn
  refine fng_of (N := N_law_greatest_turn) A.F sc fun cdv hcd A' outer s H E W0 hr gd => ?_
  have hu := hr.units
  have tk : Takes (cxOf (L2.CX P w) P w K mg base N_law_greatest_turn "_law_greatest_turn" (defScope S_law_greatest_turn) f cdv A' outer s H E) (fun c d _ H' => E c d H') := takes_of rfl rfl rfl rfl
  have po : PassesOwn (model P w) (A'.deeper (envOfC "_law_greatest_turn" (defScope S_law_greatest_turn) s.heap.objs.size f cdv)) (envOfC "_law_greatest_turn" (defScope S_law_greatest_turn) s.heap.objs.size f cdv) (cxOf (L2.CX P w) P w K mg base N_law_greatest_turn "_law_greatest_turn" (defScope S_law_greatest_turn) f cdv A' outer s H E).xe := passes_of rfl
  exact (s_cons (s_set 1 sc.nd (e_var 0))
  (s_cons (s_for po rfl (i_range1 z_range (a_cons (e_callB k_len z_len PySem.boot_len (a_cons (e_var 0) a_nil)) a_nil) (aCons_len aNil_len)) (pg_name sc.nd rfl (by first | exact Or.inl rfl | exact Or.inr rfl)) (gd_name 2)
  (s_cons (s_set 3 sc.nd (e_bin o_add (e_slice (e_var 0) (o_some (e_var 2)) o_none) (e_slice (e_var 0) o_none (o_some (e_var 2)))))
  (s_one (s_if (t_cmp o_gt (e_fn d_law_compare hr gd tk (a_cons (e_bin o_mul (e_var 3) e_int) (a_cons (e_bin o_mul (e_var 1) e_int) a_nil)) (aCons_len (aCons_len aNil_len))) e_int)
  (s_one (s_set 1 sc.nd (e_var 3)))
  s_nil))))
  (s_one (s_ret (e_var 1)))))
theorem ok_law_product {f : Addr} {fd : FuncData} (A : At K mg "_law_product" S_law_product ["first", "second"] f fd) (z_int : mg "int" = none) : Def P w K mg base tb 1 "_law_product" ["first", "second"] m_law_product := by
  refine ⟨f, fd, ?_, A.g, A.F.kp, A.b⟩
  have sc := sc_law_product
  refine fng_of (N := N_law_product) A.F sc fun cdv hcd A' outer s H E W0 hr gd => ?_
  have hu := hr.units
  have tk : Takes (cxOf (L2.CX P w) P w K mg base N_law_product "_law_product" (defScope S_law_product) f cdv A' outer s H E) (fun c d _ H' => E c d H') := takes_of rfl rfl rfl rfl
  have po : PassesOwn (model P w) (A'.deeper (envOfC "_law_product" (defScope S_law_product) s.heap.objs.size f cdv)) (envOfC "_law_product" (defScope S_law_product) s.heap.objs.size f cdv) (cxOf (L2.CX P w) P w K mg base N_law_product "_law_product" (defScope S_law_product) f cdv A' outer s H E).xe := passes_of rfl
  exact (s_cons (s_par 3 4 rfl sc.nd (a_cons (e_slice (e_var 0) o_none (o_some (e_neg e_int))) (a_cons e_str a_nil)))
  (s_cons (s_for po rfl (i_seq (e_var 1)) (pg_name sc.nd rfl (by first | exact Or.inl rfl | exact Or.inr rfl)) (gd_name 2)
  (s_cons (s_if (PW.pt (t_and (t_cmp (o_ne hu) (e_var 2) e_str) (t_and1 (t_cmp (o_eq hu) (e_bin o_mod (e_methS PySem.F.plainAttrs_str PySem.F.slot_str_count PySem.F.type_str_count m_count (e_var 3) (a_cons e_str a_nil)) e_int) e_int))))
  (s_one (s_set 2 sc.nd (e_idx e_str (e_callT k_int z_int (by decide +kernel) (a_cons (e_cmp (o_eq hu) (e_var 2) e_str) a_nil)))))
  s_nil)
  (s_one (s_set 4 sc.nd (e_bin o_add (e_bin o_add (e_var 4) (e_var 3)) (e_var 2))))))
  (s_one (s_ret (e_var 4)))))
theorem ok_law_draw {f : Addr} {fd : FuncData} (A : At K mg "_law_draw" S_law_draw ["pen", "most"] f fd) (d_law_take : Def P w K mg base tb 2 "_law_take" ["pen", "many"] m_law_take) (d_law_letters : Def P w K mg base tb 4 "_law_letters" ["pen", "size"] m_law_letters) (d_law_root : Def P w K mg base tb 1 "_law_root" ["word"] m_law_root) (d_law_greatest_turn : Def P w K mg base tb 2 "_law_greatest_turn" ["word"] m_law_greatest_turn) (d_law_product : Def P w K mg base tb 1 "_law_product" ["first", "second"] m_law_product) (d_law_one : Def P w K mg base tb 3 "_law_one" ["pen", "some"] m_law_one) (z_len : mg "len" = none) : Def P w K mg base tb 5 "_law_draw" ["pen", "most"] m_law_draw := by
  refine ⟨f, fd, ?_, A.g, A.F.kp, A.b⟩
  have sc := sc_law_draw
  refine fng_of (N := N_law_draw) A.F sc fun cdv hcd A' outer s H E W0 hr gd => ?_
  have hu := hr.units
  have tk : Takes (cxOf (L2.CX P w) P w K mg base N_law_draw "_law_draw" (defScope S_law_draw) f cdv A' outer s H E) (fun c d _ H' => E c d H') := takes_of rfl rfl rfl rfl
  have po : PassesOwn (model P w) (A'.deeper (envOfC "_law_draw" (defScope S_law_draw) s.heap.objs.size f cdv)) (envOfC "_law_draw" (defScope S_law_draw) s.heap.objs.size f cdv) (cxOf (L2.CX P w) P w K mg base N_law_draw "_law_draw" (defScope S_law_draw) f cdv A' outer s H E).xe := passes_of rfl
  exact (s_cons (s_set 2 sc.nd (e_fn d_law_root hr gd tk (a_cons (e_fn d_law_letters hr gd tk (a_cons (e_var 0) (a_cons (e_bin o_add e_int (e_fn d_law_take hr gd tk (a_cons (e_var 0) (a_cons (e_var 1) a_nil)) (aCons_len (aCons_len aNil_len)))) a_nil)) (aCons_len (aCons_len aNil_len))) a_nil) (aCons_len aNil_len)))
  (s_cons (s_set 3 sc.nd (e_bin o_add (e_slice (e_fn d_law_greatest_turn hr gd tk (a_cons (e_var 2) a_nil) (aCons_len aNil_len)) o_none (o_some (e_neg e_int))) e_str))
  (s_cons (s_set 4 sc.nd (e_fn d_law_take hr gd tk (a_cons (e_var 0) (a_cons e_int a_nil)) (aCons_len (aCons_len aNil_len))))
  (s_cons (s_if (PW.pt (t_and (t_cmp (o_eq hu) (e_var 4) e_int) (t_and1 (t_cmp o_le (e_bin o_mul e_int (e_callB k_len z_len PySem.boot_len (a_cons (e_var 3) a_nil))) (e_var 1)))))
  (s_one (s_ret (e_fn d_law_product hr gd tk (a_cons e_str (a_cons (e_var 3) a_nil)) (aCons_len (aCons_len aNil_len)))))
  s_nil)
  (s_cons (s_if (PW.pt (t_and (t_cmp (o_eq hu) (e_var 4) e_int) (t_and1 (t_cmp o_le (e_bin o_mul (e_callB k_len z_len PySem.boot_len (a_cons (e_var 3) a_nil)) e_int) (e_var 1)))))
  (s_cons (s_set 5 sc.nd (e_fn d_law_one hr gd tk (a_cons (e_var 0) (a_cons (e_frz (l_disp (a_cons e_str (a_cons e_str (a_cons e_str (a_cons e_str (a_cons e_str a_nil))))))) a_nil)) (aCons_len (aCons_len aNil_len))))
  (s_one (s_set 3 sc.nd (e_if (t_cmp o_le (e_bin o_mul (e_callB k_len z_len PySem.boot_len (a_cons (e_var 3) a_nil)) (e_callB k_len z_len PySem.boot_len (a_cons (e_var 5) a_nil))) (e_var 1)) (e_fn d_law_product hr gd tk (a_cons (e_var 3) (a_cons (e_var 5) a_nil)) (aCons_len (aCons_len aNil_len))) (e_fn d_law_product hr gd tk (a_cons (e_var 3) (a_cons e_str a_nil)) (aCons_len (aCons_len aNil_len)))))))
  s_nil)
  (s_one (s_ret (e_var 3))))))))
theorem ok_is_code {f : Addr} {fd : FuncData} (A : At K mg "is_code" S_is_code ["value"] f fd) (z_all : mg "all" = none) (z_isinstance : mg "isinstance" = none) (z_len : mg "len" = none) (z_str : mg "str" = none) {t_LIMIT : Tok} (c_LIMIT : mg "LIMIT" = some (.int 40 t_LIMIT)) {c Pt : Addr} (hfc : fd.code = .ref c) (TB : GxR.TabB base mg c Pt) (hP : Pt ∈ tb.l) (hQ : tb.q Pt = none) : Def P w K mg base tb 1 "is_code" ["value"] m_is_code := by
  refine ⟨f, fd, ?_, A.g, A.F.kp, A.b⟩
  have sc := sc_is_code
  refine fng_of (N := N_is_code) A.F sc fun cdv hcd A' outer s H E W0 hr gd => ?_
  have hu := hr.units
  have tk : Takes (cxOf (L2.CX P w) P w K mg base N_is_code "is_code" (defScope S_is_code) f cdv A' outer s H E) (fun c d _ H' => E c d H') := takes_of rfl rfl rfl rfl
  have po : PassesOwn (model P w) (A'.deeper (envOfC "is_code" (defScope S_is_code) s.heap.objs.size f cdv)) (envOfC "is_code" (defScope S_is_code) s.heap.objs.size f cdv) (cxOf (L2.CX P w) P w K mg base N_is_code "is_code" (defScope S_is_code) f cdv A' outer s H E).xe := passes_of rfl
  exact (s_cons (s_if (PW.pt (t_or (t_not (t_tru (e_isTy z_isinstance z_str (by decide +kernel) (e_var 0)))) (t_or1 (t_not (t_chain o_le o_le e_int (e_callB k_len z_len PySem.boot_len (a_cons (e_var 0) a_nil)) (e_gint c_LIMIT))))))
  (s_one (s_ret e_bl))
  s_nil)
  (s_one (s_ret (e_and (e_cmp (o_eq hu) (e_idx (e_var 0) (e_neg e_int)) e_str) (e_one (e_allIn hr z_all TB hP hQ (hcd.symm.trans hfc) ⟨rfl, rfl, by decide +kernel, rfl, rfl, fun y hy e => absurd e ((by decide +kernel : ∀ y ∈ ([(".0", .local), ("letter", .local)] : List (Str × NameKind)), y.2 ≠ .free) y hy)⟩ (e_slice (e_var 0) o_none (o_some (e_neg e_int)))))))))
theorem ok_require_code {f : Addr} {fd : FuncData} (A : At K mg "require_code" S_require_code ["value"] f fd) (d_is_code : Def P w K mg base tb 1 "is_code" ["value"] m_is_code) {C_NotACode : Addr} (x_NotACode : ExT K mg "NotACode" C_NotACode) : Def P w K mg base tb 2 "require_code" ["value"] m_require_code := by
  refine ⟨f, fd, ?_, A.g, A.F.kp, A.b⟩
  have sc := sc_require_code
  refine fng_of (N := N_require_code) A.F sc fun cdv hcd A' outer s H E W0 hr gd => ?_
  have hu := hr.units
  have tk : Takes (cxOf (L2.CX P w) P w K mg base N_require_code "require_code" (defScope S_require_code) f cdv A' outer s H E) (fun c d _ H' => E c d H') := takes_of rfl rfl rfl rfl
  have po : PassesOwn (model P w) (A'.deeper (envOfC "require_code" (defScope S_require_code) s.heap.objs.size f cdv)) (envOfC "require_code" (defScope S_require_code) s.heap.objs.size f cdv) (cxOf (L2.CX P w) P w K mg base N_require_code "require_code" (defScope S_require_code) f cdv A' outer s H E).xe := passes_of rfl
  exact (s_one (s_if (t_not (t_tru (e_fn d_is_code hr gd tk (a_cons (e_var 0) a_nil) (aCons_len aNil_len))))
  (s_one (s_raise x_NotACode rfl tk))
  s_nil))
theorem ok_is_odd {f : Addr} {fd : FuncData} (A : At K mg "is_odd" S_is_odd ["letters"] f fd) : Def P w K mg base tb 1 "is_odd" ["letters"] m_is_odd := by
  refine ⟨f, fd, ?_, A.g, A.F.kp, A.b⟩
  have sc := sc_is_odd
  refine fng_of (N := N_is_odd) A.F sc fun cdv hcd A' outer s H E W0 hr gd => ?_
  have hu := hr.units
  have tk : Takes (cxOf (L2.CX P w) P w K mg base N_is_odd "is_odd" (defScope S_is_odd) f cdv A' outer s H E) (fun c d _ H' => E c d H') := takes_of rfl rfl rfl rfl
  have po : PassesOwn (model P w) (A'.deeper (envOfC "is_odd" (defScope S_is_odd) s.heap.objs.size f cdv)) (envOfC "is_odd" (defScope S_is_odd) s.heap.objs.size f cdv) (cxOf (L2.CX P w) P w K mg base N_is_odd "is_odd" (defScope S_is_odd) f cdv A' outer s H E).xe := passes_of rfl
  exact (s_one (s_ret (e_cmp (o_eq hu) (e_bin o_mod (e_methS PySem.F.plainAttrs_str PySem.F.slot_str_count PySem.F.type_str_count m_count (e_var 0) (a_cons e_str a_nil)) e_int) e_int)))
theorem ok_turned {f : Addr} {fd : FuncData} (A : At K mg "_turned" S_turned ["letters", "start"] f fd) (d_is_odd : Def P w K mg base tb 1 "is_odd" ["letters"] m_is_odd) (D_SWAPPED : GDct K w mg "SWAPPED" [("L", "R"), ("C", "C"), ("R", "L")]) : Def P w K mg base tb 2 "_turned" ["letters", "start"] m_turned := by
  refine ⟨f, fd, ?_, A.g, A.F.kp, A.b⟩
  have sc := sc_turned
  refine fng_of (N := N_turned) A.F sc fun cdv hcd A' outer s H E W0 hr gd => ?_
  have hu := hr.units
  have tk : Takes (cxOf (L2.CX P w) P w K mg base N_turned "_turned" (defScope S_turned) f cdv A' outer s H E) (fun c d _ H' => E c d H') := takes_of rfl rfl rfl rfl
  have po : PassesOwn (model P w) (A'.deeper (envOfC "_turned" (defScope S_turned) s.heap.objs.size f cdv)) (envOfC "_turned" (defScope S_turned) s.heap.objs.size f cdv) (cxOf (L2.CX P w) P w K mg base N_turned "_turned" (defScope S_turned) f cdv A' outer s H E).xe := passes_of rfl
  exact (s_cons (s_if (t_not (t_tru (e_fn d_is_odd hr gd tk (a_cons (e_var 1) a_nil) (aCons_len aNil_len))))
  (s_one (s_ret (e_var 0)))
  s_nil)
  (s_one (s_ret (e_methS PySem.F.plainAttrs_str PySem.F.slot_str_join PySem.F.type_str_join m_join e_str (a_cons (e_frz (l_comp [("letter", 2)] rfl sc.nd (i_seq (e_var 0)) (blkOk_by (N := N_turned) (sc := defScope S_turned) (by decide +kernel)) (gd_name 2) (by decide) (fun _ _ _ _ _ => (pg_name sc.nd rfl (by first | exact Or.inl rfl | exact Or.inr rfl))) (fun _ _ _ _ _ => ts_nil) (fun _ _ _ _ _ => (e_gdict D_SWAPPED (e_var 2))))) a_nil)))))
theorem ok_joined {f : Addr} {fd : FuncData} (A : At K mg "joined" S_joined ["first", "second"] f fd) (d_turned : Def P w K mg base tb 2 "_turned" ["letters", "start"] m_turned) : Def P w K mg base tb 3 "joined" ["first", "second"] m_joined := by
  refine ⟨f, fd, ?_, A.g, A.F.kp, A.b⟩
  have sc := sc_joined
  refine fng_of (N := N_joined) A.F sc fun cdv hcd A' outer s H E W0 hr gd => ?_
  have hu := hr.units
  have tk : Takes (cxOf (L2.CX P w) P w K mg base N_joined "joined" (defScope S_joined) f cdv A' outer s H E) (fun c d _ H' => E c d H') := takes_of rfl rfl rfl rfl
  have po : PassesOwn (model P w) (A'.deeper (envOfC "joined" (defScope S_joined) s.heap.objs.size f cdv)) (envOfC "joined" (defScope S_joined) s.heap.objs.size f cdv) (cxOf (L2.CX P w) P w K mg base N_joined "joined" (defScope S_joined) f cdv A' outer s H E).xe := passes_of rfl
  exact (s_cons (s_set 2 sc.nd (e_slice (e_var 0) o_none (o_some (e_neg e_int))))
  (s_one (s_ret (e_methS PySem.F.plainAttrs_str PySem.F.slot_str_join PySem.F.type_str_join m_join e_str (a_cons (e_frz (l_comp [("letter", 3)] rfl sc.nd (i_seq (e_fn d_turned hr gd tk (a_cons (e_var 1) (a_cons (e_var 2) a_nil)) (aCons_len (aCons_len aNil_len)))) (blkOk_by (N := N_joined) (sc := defScope S_joined) (by decide +kernel)) (gd_name 3) (by decide) (fun _ _ _ _ _ => (pg_name sc.nd rfl (by first | exact Or.inl rfl | exact Or.inr rfl))) (fun _ _ _ _ _ => ts_nil) (fun _ _ _ _ _ => (e_bin o_add (e_var 2) (e_var 3))))) a_nil)))))
theorem ok_product {f : Addr} {fd : FuncData} (A : At K mg "product" S_product ["first", "second"] f fd) (d_require_code : Def P w K mg base tb 2 "require_code" ["value"] m_require_code) (d_joined : Def P w K mg base tb 3 "joined" ["first", "second"] m_joined) (z_len : mg "len" = none) {t_LIMIT : Tok} (c_LIMIT : mg "LIMIT" = some (.int 40 t_LIMIT)) {C_TooLong : Addr} (x_TooLong : ExT K mg "TooLong" C_TooLong) : Def P w K mg base tb 4 "product" ["first", "second"] m_product := by
  refine ⟨f, fd, ?_, A.g, A.F.kp, A.b⟩
  have sc := sc_product
  refine fng_of (N := N_product) A.F sc fun cdv hcd A' outer s H E W0 hr gd => ?_
  have hu := hr.units
  have tk : Takes (cxOf (L2.CX P w) P w K mg base N_product "product" (defScope S_product) f cdv A' outer s H E) (fun c d _ H' => E c d H') := takes_of rfl rfl rfl rfl
  have po : PassesOwn (model P w) (A'.deeper (envOfC "product" (defScope S_product) s.heap.objs.size f cdv)) (envOfC "product" (defScope S_product) s.heap.objs.size f cdv) (cxOf (L2.CX P w) P w K mg base N_product "product" (defScope S_product) f cdv A' outer s H E).xe := passes_of rfl
  exact (s_cons (s_expr (e_fn d_require_code hr gd tk (a_cons (e_var 0) a_nil) (aCons_len aNil_len)))
  (s_cons (s_expr (e_fn d_require_code hr gd tk (a_cons (e_var 1) a_nil) (aCons_len aNil_len)))
  (s_cons (s_if (t_cmp o_gt (e_bin o_mul (e_callB k_len z_len PySem.boot_len (a_cons (e_var 0) a_nil)) (e_callB k_len z_len PySem.boot_len (a_cons (e_var 1) a_nil))) (e_gint c_LIMIT))
  (s_one (s_raise x_TooLong rfl tk))
  s_nil)
  (s_one (s_ret (e_fn d_joined hr gd tk (a_cons (e_var 0) (a_cons (e_var 1) a_nil)) (aCons_len (aCons_len aNil_len))))))))
theorem ok_order {f : Addr} {fd : FuncData} (A : At K mg "order" S_order ["first", "second"] f fd) (z_zip : mg "zip" = none) {t_LETTERS : Tok} (c_LETTERS : mg "LETTERS" = some (.str "LCR" t_LETTERS)) : Def P w K mg base tb 1 "order" ["first", "second"] m_order := by
  refine ⟨f, fd, ?_, A.g, A.F.kp, A.b⟩
  have sc := sc_order
  refine fng_of (N := N_order) A.F sc fun cdv hcd A' outer s H E W0 hr gd => ?_
  have hu := hr.units
  have tk : Takes (cxOf (L2.CX P w) P w K mg base N_order "order" (defScope S_order) f cdv A' outer s H E) (fun c d _ H' => E c d H') := takes_of rfl rfl rfl rfl
  have po : PassesOwn (model P w) (A'.deeper (envOfC "order" (defScope S_order) s.heap.objs.size f cdv)) (envOfC "order" (defScope S_order) s.heap.objs.size f cdv) (cxOf (L2.CX P w) P w K mg base N_order "order" (defScope S_order) f cdv A' outer s H E).xe := passes_of rfl
  exact (s_cons (s_set 2 sc.nd e_int)
  (s_cons (s_for po rfl (i_zip z_zip (a_cons (e_var 0) (a_cons (e_var 1) a_nil))) (pg_tup rfl (pgs_cons (pg_name sc.nd rfl (by first | exact Or.inl rfl | exact Or.inr rfl)) (pgs_cons (pg_name sc.nd rfl (by first | exact Or.inl rfl | exact Or.inr rfl)) pgs_nil))) (gd_tupW (gds_cons (gd_name 3) (gds_cons (gd_name 4) gds_nil)))
  (s_cons (s_if (t_cmp (o_ne hu) (e_var 3) (e_var 4))
  (s_one (s_ret (e_if (t_cmp o_gt (e_methS PySem.F.plainAttrs_str PySem.F.slot_str_index PySem.F.type_str_index m_index (e_gstr c_LETTERS) (a_cons (e_var 3) a_nil)) (e_methS PySem.F.plainAttrs_str PySem.F.slot_str_index PySem.F.type_str_index m_index (e_gstr c_LETTERS) (a_cons (e_var 4) a_nil))) (e_var 2) (e_neg (e_var 2)))))
  s_nil)
  (s_one (s_if (t_cmp (o_eq hu) (e_var 3) e_str)
  (s_one (s_set 2 sc.nd (e_neg (e_var 2))))
  s_nil))))
  (s_one (s_ret e_int))))
theorem ok_first_greater {f : Addr} {fd : FuncData} (A : At K mg "first_greater" S_first_greater ["letters"] f fd) (d_order : Def P w K mg base tb 1 "order" ["first", "second"] m_order) (z_len : mg "len" = none) (z_range : mg "range" = none) : Def P w K mg base tb 2 "first_greater" ["letters"] m_first_greater := by
  refine ⟨f, fd, ?_, A.g, A.F.kp, A.b⟩
  have sc := sc_first_greater
  refine fng_of (N := N_first_greater) A.F sc fun cdv hcd A' outer s H E W0 hr gd => ?_
  have hu := hr.units
  have tk : Takes (cxOf (L2.CX P w) P w K mg base N_first_greater "first_greater" (defScope S_first_greater) f cdv A' outer s H E) (fun c d _ H' => E c d H') := takes_of rfl rfl rfl rfl
  have po : PassesOwn (model P w) (A'.deeper (envOfC "first_greater" (defScope S_first_greater) s.heap.objs.size f cdv)) (envOfC "first_greater" (defScope S_first_greater) s.heap.objs.size f cdv) (cxOf (L2.CX P w) P w K mg base N_first_greater "first_greater" (defScope S_first_greater) f cdv A' outer s H E).xe := passes_of rfl
  exact (s_cons (s_for po rfl (i_range2 z_range (a_cons e_int (a_cons (e_callB k_len z_len PySem.boot_len (a_cons (e_var 0) a_nil)) a_nil)) (aCons_len (aCons_len aNil_len))) (pg_name sc.nd rfl (by first | exact Or.inl rfl | exact Or.inr rfl)) (gd_name 1)
  (s_one (s_if (t_cmp o_gt (e_fn d_order hr gd tk (a_cons (e_slice (e_var 0) (o_some (e_var 1)) o_none) (a_cons (e_var 0) a_nil)) (aCons_len (aCons_len aNil_len))) e_int)
  (s_one (s_ret (e_var 1)))
  s_nil)))
  (s_one (s_ret e_non)))
theorem ok_is_admissible_code {f : Addr} {fd : FuncData} (A : At K mg "is_admissible_code" S_is_admissible_code ["value"] f fd) (d_first_greater : Def P w K mg base tb 2 "first_greater" ["letters"] m_first_greater) (d_is_code : Def P w K mg base tb 1 "is_code" ["value"] m_is_code) : Def P w K mg base tb 3 "is_admissible_code" ["value"] m_is_admissible_code := by
  refine ⟨f, fd, ?_, A.g, A.F.kp, A.b⟩
  have sc := sc_is_admissible_code
  refine fng_of (N := N_is_admissible_code) A.F sc fun cdv hcd A' outer s H E W0 hr gd => ?_
  have hu := hr.units
  have tk : Takes (cxOf (L2.CX P w) P w K mg base N_is_admissible_code "is_admissible_code" (defScope S_is_admissible_code) f cdv A' outer s H E) (fun c d _ H' => E c d H') := takes_of rfl rfl rfl rfl
  have po : PassesOwn (model P w) (A'.deeper (envOfC "is_admissible_code" (defScope S_is_admissible_code) s.heap.objs.size f cdv)) (envOfC "is_admissible_code" (defScope S_is_admissible_code) s.heap.objs.size f cdv) (cxOf (L2.CX P w) P w K mg base N_is_admissible_code "is_admissible_code" (defScope S_is_admissible_code) f cdv A' outer s H E).xe := passes_of rfl
  exact (s_one (s_ret (e_and (e_fn d_is_code hr gd tk (a_cons (e_var 0) a_nil) (aCons_len aNil_len)) (e_one (e_cmp o_isN (e_fn d_first_greater hr gd tk (a_cons (e_var 0) a_nil) (aCons_len aNil_len)) e_non)))))
theorem ok_require_admissible {f : Addr} {fd : FuncData} (A : At K mg "require_admissible" S_require_admissible ["value"] f fd) (d_is_admissible_code : Def P w K mg base tb 3 "is_admissible_code" ["value"] m_is_admissible_code) {C_NotAdmissible : Addr} (x_NotAdmissible : ExT K mg "NotAdmissible" C_NotAdmissible) : Def P w K mg base tb 4 "require_admissible" ["value"] m_require_admissible := by
  refine ⟨f, fd, ?_, A.g, A.F.kp, A.b⟩
  have sc := sc_require_admissible
  refine fng_of (N := N_require_admissible) A.F sc fun cdv hcd A' outer s H E W0 hr gd => ?_
  have hu := hr.units
  have tk : Takes (cxOf (L2.CX P w) P w K mg base N_require_admissible "require_admissible" (defScope S_require_admissible) f cdv A' outer s H E) (fun c d _ H' => E c d H') := takes_of rfl rfl rfl rfl
  have po : PassesOwn (model P w) (A'.deeper (envOfC "require_admissible" (defScope S_require_admissible) s.heap.objs.size f cdv)) (envOfC "require_admissible" (defScope S_require_admissible) s.heap.objs.size f cdv) (cxOf (L2.CX P w) P w K mg base N_require_admissible "require_admissible" (defScope S_require_admissible) f cdv A' outer s H E).xe := passes_of rfl
  exact (s_one (s_if (t_not (t_tru (e_fn d_is_admissible_code hr gd tk (a_cons (e_var 0) a_nil) (aCons_len aNil_len))))
  (s_one (s_raise x_NotAdmissible rfl tk))
  s_nil))
theorem ok_order_key {f : Addr} {fd : FuncData} (A : At K mg "order_key" S_order_key ["code"] f fd) {t_LETTERS : Tok} (c_LETTERS : mg "LETTERS" = some (.str "LCR" t_LETTERS)) : Def P w K mg base tb 1 "order_key" ["code"] m_order_key := by
  refine ⟨f, fd, ?_, A.g, A.F.kp, A.b⟩
  have sc := sc_order_key
  refine fng_of (N := N_order_key) A.F sc fun cdv hcd A' outer s H E W0 hr gd => ?_
  have hu := hr.units
  have tk : Takes (cxOf (L2.CX P w) P w K mg base N_order_key "order_key" (defScope S_order_key) f cdv A' outer s H E) (fun c d _ H' => E c d H') := takes_of rfl rfl rfl rfl
  have po : PassesOwn (model P w) (A'.deeper (envOfC "order_key" (defScope S_order_key) s.heap.objs.size f cdv)) (envOfC "order_key" (defScope S_order_key) s.heap.objs.size f cdv) (cxOf (L2.CX P w) P w K mg base N_order_key "order_key" (defScope S_order_key) f cdv A' outer s H E).xe := passes_of rfl
  exact (s_cons (s_setO 1 sc.nd (l_disp a_nil))
  (s_cons (s_set 2 sc.nd e_int)
  (s_cons (s_for po rfl (i_seq (e_var 0)) (pg_name sc.nd rfl (by first | exact Or.inl rfl | exact Or.inr rfl)) (gd_name 3)
  (s_cons (s_append 1 (e_bin o_mul (e_var 2) (e_bin o_sub (e_methS PySem.F.plainAttrs_str PySem.F.slot_str_index PySem.F.type_str_index m_index (e_gstr c_LETTERS) (a_cons (e_var 3) a_nil)) e_int)))
  (s_one (s_if (t_cmp (o_eq hu) (e_var 3) e_str)
  (s_one (s_set 2 sc.nd (e_neg (e_var 2))))
  s_nil))))
  (s_one (s_retO 1)))))
theorem ok_ascending_points {f : Addr} {fd : FuncData} (A : At K mg "ascending_points" S_ascending_points ["code"] f fd) (d_order_key : Def P w K mg base tb 1 "order_key" ["code"] m_order_key) (z_len : mg "len" = none) (z_range : mg "range" = none) (z_sorted : mg "sorted" = none) {c Pt : Addr} (hfc : fd.code = .ref c) (TB : GxR.TabB base mg c Pt) (hP : Pt ∈ tb.l) (hQ : tb.q Pt = some "ascending_points.<locals>.<lambda>") : Def P w K mg base tb 5 "ascending_points" ["code"] m_ascending_points := by
  refine ⟨f, fd, ?_, A.g, A.F.kp, A.b⟩
  have sc := sc_ascending_points
  refine fng_of (N := N_ascending_points) A.F sc fun cdv hcd A' outer s H E W0 hr gd => ?_
  have hu := hr.units
  have tk : Takes (cxOf (L2.CX P w) P w K mg base N_ascending_points "ascending_points" (defScope S_ascending_points) f cdv A' outer s H E) (fun c d _ H' => E c d H') := takes_of rfl rfl rfl rfl
  have po : PassesOwn (model P w) (A'.deeper (envOfC "ascending_points" (defScope S_ascending_points) s.heap.objs.size f cdv)) (envOfC "ascending_points" (defScope S_ascending_points) s.heap.objs.size f cdv) (cxOf (L2.CX P w) P w K mg base N_ascending_points "ascending_points" (defScope S_ascending_points) f cdv A' outer s H E).xe := passes_of rfl
  exact (s_one (s_ret (e_frz (l_sortK 1 (k := 1) (hr.mono (by decide)) gd z_sorted z_range TB hP (hQ.trans (by rfl)) (hcd.symm.trans hfc) (lamP_by (sc := defScope S_ascending_points) (x := "point") (by decide +kernel)) sc.nd (e_callB k_len z_len PySem.boot_len (a_cons (e_var 0) a_nil)) (fun _ _ _ _ hr gd => have hu := hr.units; (e_fn d_order_key hr gd takes0 (a_cons (e_slice (e_var 0) (o_some (e_var 1)) o_none) a_nil) (aCons_len aNil_len)))))))
theorem ok_positions {f : Addr} {fd : FuncData} (A : At K mg "positions" S_positions ["code"] f fd) (d_require_admissible : Def P w K mg base tb 4 "require_admissible" ["value"] m_require_admissible) (d_ascending_points : Def P w K mg base tb 5 "ascending_points" ["code"] m_ascending_points) (z_enumerate : mg "enumerate" = none) (z_len : mg "len" = none) (z_tuple : mg "tuple" = none) : Def P w K mg base tb 6 "positions" ["code"] m_positions := by
  refine ⟨f, fd, ?_, A.g, A.F.kp, A.b⟩
  have sc := sc_positions
  refine fng_of (N := N_positions) A.F sc fun cdv hcd A' outer s H E W0 hr gd => ?_
  have hu := hr.units
  have tk : Takes (cxOf (L2.CX P w) P w K mg base N_positions "positions" (defScope S_positions) f cdv A' outer s H E) (fun c d _ H' => E c d H') := takes_of rfl rfl rfl rfl
  have po : PassesOwn (model P w) (A'.deeper (envOfC "positions" (defScope S_positions) s.heap.objs.size f cdv)) (envOfC "positions" (defScope S_positions) s.heap.objs.size f cdv) (cxOf (L2.CX P w) P w K mg base N_positions "positions" (defScope S_positions) f cdv A' outer s H E).xe := passes_of rfl
  exact (s_cons (s_expr (e_fn d_require_admissible hr gd tk (a_cons (e_var 0) a_nil) (aCons_len aNil_len)))
  (s_cons (s_setO 1 sc.nd (l_mul (e_frz (l_disp (a_cons e_int a_nil))) (e_callB k_len z_len PySem.boot_len (a_cons (e_var 0) a_nil))))
  (s_cons (s_for po rfl (i_enumX z_enumerate (e_fn d_ascending_points hr gd tk (a_cons (e_var 0) a_nil) (aCons_len aNil_len))) (pg_tup rfl (pgs_cons (pg_name sc.nd rfl (by first | exact Or.inl rfl | exact Or.inr rfl)) (pgs_cons (pg_name sc.nd rfl (by first | exact Or.inl rfl | exact Or.inr rfl)) pgs_nil))) (gd_tupW (gds_cons (gd_name 2) (gds_cons (gd_name 3) gds_nil)))
  (s_one (s_item 1 (e_var 2) (e_var 3))))
  (s_one (s_frz 1 (s_ret (e_callT k_tuple z_tuple (by decide +kernel) (a_cons (e_var 1) a_nil))))))))
theorem ok_permutation {f : Addr} {fd : FuncData} (A : At K mg "permutation" S_permutation ["code"] f fd) (d_positions : Def P w K mg base tb 6 "positions" ["code"] m_positions) (z_len : mg "len" = none) (z_tuple : mg "tuple" = none) (z_zip : mg "zip" = none) : Def P w K mg base tb 7 "permutation" ["code"] m_permutation := by
  refine ⟨f, fd, ?_, A.g, A.F.kp, A.b⟩
  have sc := sc_permutation
  refine fng_of (N := N_permutation) A.F sc fun cdv hcd A' outer s H E W0 hr gd => ?_
  have hu := hr.units
  have tk : Takes (cxOf (L2.CX P w) P w K mg base N_permutation "permutation" (defScope S_permutation) f cdv A' outer s H E) (fun c d _ H' => E c d H') := takes_of rfl rfl rfl rfl
  have po : PassesOwn (model P w) (A'.deeper (envOfC "permutation" (defScope S_permutation) s.heap.objs.size f cdv)) (envOfC "permutation" (defScope S_permutation) s.heap.objs.size f cdv) (cxOf (L2.CX P w) P w K mg base N_permutation "permutation" (defScope S_permutation) f cdv A' outer s H E).xe := passes_of rfl
  exact (s_cons (s_set 1 sc.nd (e_fn d_positions hr gd tk (a_cons (e_var 0) a_nil) (aCons_len aNil_len)))
  (s_cons (s_setO 2 sc.nd (l_mul (e_frz (l_disp (a_cons e_int a_nil))) (e_callB k_len z_len PySem.boot_len (a_cons (e_var 1) a_nil))))
  (s_cons (s_for po rfl (i_zipX z_zip (a_cons (e_var 1) (a_cons (e_bin o_add (e_slice (e_var 1) (o_some e_int) o_none) (e_slice (e_var 1) o_none (o_some e_int))) a_nil))) (pg_tup rfl (pgs_cons (pg_name sc.nd rfl (by first | exact Or.inl rfl | exact Or.inr rfl)) (pgs_cons (pg_name sc.nd rfl (by first | exact Or.inl rfl | exact Or.inr rfl)) pgs_nil))) (gd_tupW (gds_cons (gd_name 3) (gds_cons (gd_name 4) gds_nil)))
  (s_one (s_item 2 (e_var 4) (e_var 3))))
  (s_one (s_frz 2 (s_ret (e_callT k_tuple z_tuple (by decide +kernel) (a_cons (e_var 2) a_nil))))))))
theorem ok_law {f : Addr} {fd : FuncData} (A : At K mg "law" S_law ["script"] f fd) (d_law_open : Def P w K mg base tb 1 "_law_open" ["script"] m_law_open) (d_law_anew : Def P w K mg base tb 1 "_law_anew" ["pen"] m_law_anew) (d_law_draw : Def P w K mg base tb 5 "_law_draw" ["pen", "most"] m_law_draw) (d_product : Def P w K mg base tb 4 "product" ["first", "second"] m_product) (d_permutation : Def P w K mg base tb 7 "permutation" ["code"] m_permutation) (d_positions : Def P w K mg base tb 6 "positions" ["code"] m_positions) (z_len : mg "len" = none) (z_range : mg "range" = none) (z_tuple : mg "tuple" = none) : FnG P w K mg base tb 8 f fd ["script"] m_law := by
  have sc := sc_law
  refine fng_of (N := N_law) A.F sc fun cdv hcd A' outer s H E W0 hr gd => ?_
  have hu := hr.units
  have tk : Takes (cxOf (L2.CX P w) P w K mg base N_law "law" (defScope S_law) f cdv A' outer s H E) (fun c d _ H' => E c d H') := takes_of rfl rfl rfl rfl
  have po : PassesOwn (model P w) (A'.deeper (envOfC "law" (defScope S_law) s.heap.objs.size f cdv)) (envOfC "law" (defScope S_law) s.heap.objs.size f cdv) (cxOf (L2.CX P w) P w K mg base N_law "law" (defScope S_law) f cdv A' outer s H E).xe := passes_of rfl
  exact (s_cons (s_set 1 sc.nd (e_fn d_law_open hr gd tk (a_cons (e_var 0) a_nil) (aCons_len aNil_len)))
  (s_cons (s_for po rfl (i_range1 z_range (a_cons e_int a_nil) (aCons_len aNil_len)) (pg_name sc.nd rfl (by first | exact Or.inl rfl | exact Or.inr rfl)) (gd_name 2)
  (s_cons (s_set 3 sc.nd (e_fn d_law_draw hr gd tk (a_cons (e_fn d_law_anew hr gd tk (a_cons (e_var 1) a_nil) (aCons_len aNil_len)) (a_cons e_int a_nil)) (aCons_len (aCons_len aNil_len))))
  (s_cons (s_set 4 sc.nd (e_fn d_law_draw hr gd tk (a_cons (e_var 1) (a_cons (e_bin o_fdiv e_int (e_callB k_len z_len PySem.boot_len (a_cons (e_var 3) a_nil))) a_nil)) (aCons_len (aCons_len aNil_len))))
  (s_cons (s_unp (e_tup (a_cons (e_fn d_permutation hr gd tk (a_cons (e_var 3) a_nil) (aCons_len aNil_len)) (a_cons (e_fn d_permutation hr gd tk (a_cons (e_fn d_product hr gd tk (a_cons (e_var 3) (a_cons (e_var 4) a_nil)) (aCons_len (aCons_len aNil_len))) a_nil) (aCons_len aNil_len)) (a_cons (e_callB k_len z_len PySem.boot_len (a_cons (e_var 4) a_nil)) a_nil)))) (pg_tl rfl (pgs_cons (pg_name sc.nd rfl (by first | exact Or.inl rfl | exact Or.inr rfl)) (pgs_cons (pg_name sc.nd rfl (by first | exact Or.inl rfl | exact Or.inr rfl)) (pgs_cons (pg_name sc.nd rfl (by first | exact Or.inl rfl | exact Or.inr rfl)) pgs_nil)))) (gd_tl (gds_cons (gd_name 8) (gds_cons (gd_name 9) (gds_cons (gd_name 10) gds_nil)))))
  (s_cons (s_if (t_cmp (o_ne hu) (e_frz (l_comp [("place", 11)] rfl sc.nd (i_range1 z_range (a_cons (e_callB k_len z_len PySem.boot_len (a_cons (e_var 9) a_nil)) a_nil) (aCons_len aNil_len)) (blkOk_by (N := N_law) (sc := defScope S_law) (by decide +kernel)) (gd_name 11) (by decide) (fun _ _ _ _ _ => (pg_name sc.nd rfl (by first | exact Or.inl rfl | exact Or.inr rfl))) (fun _ _ _ _ _ => ts_nil) (fun _ _ _ _ _ => (e_bin o_fdiv (e_idx (e_var 9) (e_var 11)) (e_var 10))))) (e_frz (l_comp [("k", 13)] rfl sc.nd (i_range1 z_range (a_cons (e_callB k_len z_len PySem.boot_len (a_cons (e_var 9) a_nil)) a_nil) (aCons_len aNil_len)) (blkOk_by (N := N_law) (sc := defScope S_law) (by decide +kernel)) (gd_name 13) (by decide) (fun _ _ _ _ _ => (pg_name sc.nd rfl (by first | exact Or.inl rfl | exact Or.inr rfl))) (fun _ _ _ _ _ => ts_nil) (fun _ _ _ _ _ => (e_idx (e_var 8) (e_bin o_fdiv (e_var 13) (e_var 10)))))))
  (s_one (s_ret e_bl))
  s_nil)
  (s_cons (s_set 5 sc.nd (e_idx (e_fn d_positions hr gd tk (a_cons (e_var 3) a_nil) (aCons_len aNil_len)) (e_bin o_sub (e_callB k_len z_len PySem.boot_len (a_cons (e_var 3) a_nil)) e_int)))
  (s_cons (s_setO 6 sc.nd (l_disp a_nil))
  (s_cons (s_for po rfl (i_range1 z_range (a_cons (e_var 10) a_nil) (aCons_len aNil_len)) (pg_name sc.nd rfl (by first | exact Or.inl rfl | exact Or.inr rfl)) (gd_name 7)
  (s_cons (s_set 11 sc.nd (e_bin o_add (e_bin o_mul (e_var 5) (e_var 10)) (e_var 7)))
  (s_cons (s_for po rfl (i_range1 z_range (a_cons (e_callB k_len z_len PySem.boot_len (a_cons (e_var 3) a_nil)) a_nil) (aCons_len aNil_len)) (pg_name sc.nd rfl (by first | exact Or.inl rfl | exact Or.inr rfl)) (gd_name 12)
  (s_one (s_set 11 sc.nd (e_idx (e_var 9) (e_var 11)))))
  (s_one (s_append 6 (e_bin o_sub (e_var 11) (e_bin o_mul (e_var 5) (e_var 10))))))))
  (s_cons (s_frz 6 (s_if (t_cmp (o_eq hu) (e_bin o_mod (e_methS PySem.F.plainAttrs_str PySem.F.slot_str_count PySem.F.type_str_count m_count (e_slice (e_var 3) o_none (o_some (e_neg e_int))) (a_cons e_str a_nil)) e_int) e_int)
  (s_one (s_setLc 6 [("offset", 7)] rfl sc.nd (i_seq (e_revL (e_var 6))) (blkOk_by (N := N_law) (sc := defScope S_law) (by decide +kernel)) (gd_name 7) (by decide) (fun _ _ _ _ _ => (pg_name sc.nd rfl (by first | exact Or.inl rfl | exact Or.inr rfl))) (fun _ _ _ _ _ => ts_nil) (fun _ _ _ _ _ => (e_bin o_sub (e_bin o_sub (e_var 10) e_int) (e_var 7)))))
  s_nil))
  (s_one (s_if (t_cmp (o_ne hu) (e_callT k_tuple z_tuple (by decide +kernel) (a_cons (e_var 6) a_nil)) (e_fn d_permutation hr gd tk (a_cons (e_var 4) a_nil) (aCons_len aNil_len)))
  (s_one (s_ret e_bl))
  s_nil)))))))))))
  (s_one (s_ret e_bl))))
end
theorem all_mk {P : Program} {w : World} {K : PySem.W.Frag} {h : Heap} {mg : Str → Option Value} {fa : Addr} (X : K.In h) (G : h.Ns mainGlobals mg) (hfa : mg "law" = some (.ref fa)) (own : ∀ nm ∈ (["is_code", "ascending_points"] : List Str), TabOf K mg h nm) (hH : Holds m_law)
    {f0 : Addr} {od0 an0 : Option Addr} {sl0 : Array (Option Value)} {oc0 kV0 dc0 pm0 cd0 ct0 : Value} {f1 : Addr} {od1 an1 : Option Addr} {sl1 : Array (Option Value)} {oc1 kV1 dc1 pm1 cd1 ct1 : Value} {f2 : Addr} {od2 an2 : Option Addr} {sl2 : Array (Option Value)} {oc2 kV2 dc2 pm2 cd2 ct2 : Value} {f3 : Addr} {od3 an3 : Option Addr} {sl3 : Array (Option Value)} {oc3 kV3 dc3 pm3 cd3 ct3 : Value} {f4 : Addr} {od4 an4 : Option Addr} {sl4 : Array (Option Value)} {oc4 kV4 dc4 pm4 cd4 ct4 : Value} {f5 : Addr} {od5 an5 : Option Addr} {sl5 : Array (Option Value)} {oc5 kV5 dc5 pm5 cd5 ct5 : Value} {f6 : Addr} {od6 an6 : Option Addr} {sl6 : Array (Option Value)} {oc6 kV6 dc6 pm6 cd6 ct6 : Value} {f7 : Addr} {od7 an7 : Option Addr} {sl7 : Array (Option Value)} {oc7 kV7 dc7 pm7 cd7 ct7 : Value} {f8 : Addr} {od8 an8 : Option Addr} {sl8 : Array (Option Value)} {oc8 kV8 dc8 pm8 cd8 ct8 : Value} {f9 : Addr} {od9 an9 : Option Addr} {sl9 : Array (Option Value)} {oc9 kV9 dc9 pm9 cd9 ct9 : Value} {f10 : Addr} {od10 an10 : Option Addr} {sl10 : Array (Option Value)} {oc10 kV10 dc10 pm10 cd10 ct10 : Value} {f11 : Addr} {od11 an11 : Option Addr} {sl11 : Array (Option Value)} {oc11 kV11 dc11 pm11  ct11 : Value} {co11 Pt11 : Addr} {cf11 : Option Addr} {cv11 : Array Value} {cl11 : Array (Option Value)} {f12 : Addr} {od12 an12 : Option Addr} {sl12 : Array (Option Value)} {oc12 kV12 dc12 pm12 cd12 ct12 : Value} {f13 : Addr} {od13 an13 : Option Addr} {sl13 : Array (Option Value)} {oc13 kV13 dc13 pm13 cd13 ct13 : Value} {f14 : Addr} {od14 an14 : Option Addr} {sl14 : Array (Option Value)} {oc14 kV14 dc14 pm14 cd14 ct14 : Value} {f15 : Addr} {od15 an15 : Option Addr} {sl15 : Array (Option Value)} {oc15 kV15 dc15 pm15 cd15 ct15 : Value} {f16 : Addr} {od16 an16 : Option Addr} {sl16 : Array (Option Value)} {oc16 kV16 dc16 pm16 cd16 ct16 : Value} {f17 : Addr} {od17 an17 : Option Addr} {sl17 : Array (Option Value)} {oc17 kV17 dc17 pm17 cd17 ct17 : Value} {f18 : Addr} {od18 an18 : Option Addr} {sl18 : Array (Option Value)} {oc18 kV18 dc18 pm18 cd18 ct18 : Value} {f19 : Addr} {od19 an19 : Option Addr} {sl19 : Array (Option Value)} {oc19 kV19 dc19 pm19 cd19 ct19 : Value} {f20 : Addr} {od20 an20 : Option Addr} {sl20 : Array (Option Value)} {oc20 kV20 dc20 pm20 cd20 ct20 : Value} {f21 : Addr} {od21 an21 : Option Addr} {sl21 : Array (Option Value)} {oc21 kV21 dc21 pm21 cd21 ct21 : Value} {f22 : Addr} {od22 an22 : Option Addr} {sl22 : Array (Option Value)} {oc22 kV22 dc22 pm22  ct22 : Value} {co22 Pt22 : Addr} {cf22 : Option Addr} {cv22 : Array Value} {cl22 : Array (Option Value)} {f23 : Addr} {od23 an23 : Option Addr} {sl23 : Array (Option Value)} {oc23 kV23 dc23 pm23 cd23 ct23 : Value} {f24 : Addr} {od24 an24 : Option Addr} {sl24 : Array (Option Value)} {oc24 kV24 dc24 pm24 cd24 ct24 : Value} {f25 : Addr} {od25 an25 : Option Addr} {sl25 : Array (Option Value)} {oc25 kV25 dc25 pm25 cd25 ct25 : Value} {t_LETTERS : Tok} {t_LIMIT : Tok} {C_NotACode : Addr} {C_NotAdmissible : Addr} {C_TooLong : Addr} {d_SWAPPED : Addr} {es_SWAPPED : Array DictEntry} {nn_SWAPPED : Nat} {tk_SWAPPED_0 : Tok} {tk_SWAPPED_1 : Tok} {tk_SWAPPED_2 : Tok}
    (a0 : PySem.W.nsIn K mainGlobals "_law_open" = some (some (.ref f0)))
    (l0 : K.lookup f0 = some ⟨oc0, od0, .func (PySem.W.fnOf "_law_open" "_law_open" (defArgs S_law_open) (defBody S_law_open) (defScope S_law_open) .none kV0 dc0 pm0 an0 cd0 ct0), sl0⟩)
    (c0 : PySem.W.codeIn K cd0 "_law_open" = true)
    (k0 : PySem.W.keepIn K (.ref f0) = true)
    (a1 : PySem.W.nsIn K mainGlobals "_law_anew" = some (some (.ref f1)))
    (l1 : K.lookup f1 = some ⟨oc1, od1, .func (PySem.W.fnOf "_law_anew" "_law_anew" (defArgs S_law_anew) (defBody S_law_anew) (defScope S_law_anew) .none kV1 dc1 pm1 an1 cd1 ct1), sl1⟩)
    (c1 : PySem.W.codeIn K cd1 "_law_anew" = true)
    (k1 : PySem.W.keepIn K (.ref f1) = true)
    (a2 : PySem.W.nsIn K mainGlobals "_law_spread" = some (some (.ref f2)))
    (l2 : K.lookup f2 = some ⟨oc2, od2, .func (PySem.W.fnOf "_law_spread" "_law_spread" (defArgs S_law_spread) (defBody S_law_spread) (defScope S_law_spread) .none kV2 dc2 pm2 an2 cd2 ct2), sl2⟩)
    (c2 : PySem.W.codeIn K cd2 "_law_spread" = true)
    (k2 : PySem.W.keepIn K (.ref f2) = true)
    (a3 : PySem.W.nsIn K mainGlobals "_law_take" = some (some (.ref f3)))
    (l3 : K.lookup f3 = some ⟨oc3, od3, .func (PySem.W.fnOf "_law_take" "_law_take" (defArgs S_law_take) (defBody S_law_take) (defScope S_law_take) .none kV3 dc3 pm3 an3 cd3 ct3), sl3⟩)
    (c3 : PySem.W.codeIn K cd3 "_law_take" = true)
    (k3 : PySem.W.keepIn K (.ref f3) = true)
    (a4 : PySem.W.nsIn K mainGlobals "_law_one" = some (some (.ref f4)))
    (l4 : K.lookup f4 = some ⟨oc4, od4, .func (PySem.W.fnOf "_law_one" "_law_one" (defArgs S_law_one) (defBody S_law_one) (defScope S_law_one) .none kV4 dc4 pm4 an4 cd4 ct4), sl4⟩)
    (c4 : PySem.W.codeIn K cd4 "_law_one" = true)
    (k4 : PySem.W.keepIn K (.ref f4) = true)
    (a5 : PySem.W.nsIn K mainGlobals "_law_letters" = some (some (.ref f5)))
    (l5 : K.lookup f5 = some ⟨oc5, od5, .func (PySem.W.fnOf "_law_letters" "_law_letters" (defArgs S_law_letters) (defBody S_law_letters) (defScope S_law_letters) .none kV5 dc5 pm5 an5 cd5 ct5), sl5⟩)
    (c5 : PySem.W.codeIn K cd5 "_law_letters" = true)
    (k5 : PySem.W.keepIn K (.ref f5) = true)
    (a6 : PySem.W.nsIn K mainGlobals "_law_root" = some (some (.ref f6)))
    (l6 : K.lookup f6 = some ⟨oc6, od6, .func (PySem.W.fnOf "_law_root" "_law_root" (defArgs S_law_root) (defBody S_law_root) (defScope S_law_root) .none kV6 dc6 pm6 an6 cd6 ct6), sl6⟩)
    (c6 : PySem.W.codeIn K cd6 "_law_root" = true)
    (k6 : PySem.W.keepIn K (.ref f6) = true)
    (a7 : PySem.W.nsIn K mainGlobals "_law_compare" = some (some (.ref f7)))
    (l7 : K.lookup f7 = some ⟨oc7, od7, .func (PySem.W.fnOf "_law_compare" "_law_compare" (defArgs S_law_compare) (defBody S_law_compare) (defScope S_law_compare) .none kV7 dc7 pm7 an7 cd7 ct7), sl7⟩)
    (c7 : PySem.W.codeIn K cd7 "_law_compare" = true)
    (k7 : PySem.W.keepIn K (.ref f7) = true)
    (a8 : PySem.W.nsIn K mainGlobals "_law_greatest_turn" = some (some (.ref f8)))
    (l8 : K.lookup f8 = some ⟨oc8, od8, .func (PySem.W.fnOf "_law_greatest_turn" "_law_greatest_turn" (defArgs S_law_greatest_turn) (defBody S_law_greatest_turn) (defScope S_law_greatest_turn) .none kV8 dc8 pm8 an8 cd8 ct8), sl8⟩)
    (c8 : PySem.W.codeIn K cd8 "_law_greatest_turn" = true)
    (k8 : PySem.W.keepIn K (.ref f8) = true)
    (a9 : PySem.W.nsIn K mainGlobals "_law_product" = some (some (.ref f9)))
    (l9 : K.lookup f9 = some ⟨oc9, od9, .func (PySem.W.fnOf "_law_product" "_law_product" (defArgs S_law_product) (defBody S_law_product) (defScope S_law_product) .none kV9 dc9 pm9 an9 cd9 ct9), sl9⟩)
    (c9 : PySem.W.codeIn K cd9 "_law_product" = true)
    (k9 : PySem.W.keepIn K (.ref f9) = true)
    (a10 : PySem.W.nsIn K mainGlobals "_law_draw" = some (some (.ref f10)))
    (l10 : K.lookup f10 = some ⟨oc10, od10, .func (PySem.W.fnOf "_law_draw" "_law_draw" (defArgs S_law_draw) (defBody S_law_draw) (defScope S_law_draw) .none kV10 dc10 pm10 an10 cd10 ct10), sl10⟩)
    (c10 : PySem.W.codeIn K cd10 "_law_draw" = true)
    (k10 : PySem.W.keepIn K (.ref f10) = true)
    (a11 : PySem.W.nsIn K mainGlobals "is_code" = some (some (.ref f11)))
    (l11 : K.lookup f11 = some ⟨oc11, od11, .func (PySem.W.fnOf "is_code" "is_code" (defArgs S_is_code) (defBody S_is_code) (defScope S_is_code) .none kV11 dc11 pm11 an11 (.ref co11) ct11), sl11⟩)
    (c11 : PySem.W.codeIn K (.ref co11) "is_code" = true)
    (k11 : PySem.W.keepIn K (.ref f11) = true)
    (cx11 : K.lookup co11 = some ⟨.type "code", cf11, .fields cv11, cl11⟩)
    (cy11 : (cv11[11]? : Option Value) = some (.ref Pt11))
    (cz11 : DL.codeOk cv11 co11 Pt11 = true)
    (cn11 : K.lookup Pt11 = none)
    (a12 : PySem.W.nsIn K mainGlobals "require_code" = some (some (.ref f12)))
    (l12 : K.lookup f12 = some ⟨oc12, od12, .func (PySem.W.fnOf "require_code" "require_code" (defArgs S_require_code) (defBody S_require_code) (defScope S_require_code) .none kV12 dc12 pm12 an12 cd12 ct12), sl12⟩)
    (c12 : PySem.W.codeIn K cd12 "require_code" = true)
    (k12 : PySem.W.keepIn K (.ref f12) = true)
    (a13 : PySem.W.nsIn K mainGlobals "is_odd" = some (some (.ref f13)))
    (l13 : K.lookup f13 = some ⟨oc13, od13, .func (PySem.W.fnOf "is_odd" "is_odd" (defArgs S_is_odd) (defBody S_is_odd) (defScope S_is_odd) .none kV13 dc13 pm13 an13 cd13 ct13), sl13⟩)
    (c13 : PySem.W.codeIn K cd13 "is_odd" = true)
    (k13 : PySem.W.keepIn K (.ref f13) = true)
    (a14 : PySem.W.nsIn K mainGlobals "_turned" = some (some (.ref f14)))
    (l14 : K.lookup f14 = some ⟨oc14, od14, .func (PySem.W.fnOf "_turned" "_turned" (defArgs S_turned) (defBody S_turned) (defScope S_turned) .none kV14 dc14 pm14 an14 cd14 ct14), sl14⟩)
    (c14 : PySem.W.codeIn K cd14 "_turned" = true)
    (k14 : PySem.W.keepIn K (.ref f14) = true)
    (a15 : PySem.W.nsIn K mainGlobals "joined" = some (some (.ref f15)))
    (l15 : K.lookup f15 = some ⟨oc15, od15, .func (PySem.W.fnOf "joined" "joined" (defArgs S_joined) (defBody S_joined) (defScope S_joined) .none kV15 dc15 pm15 an15 cd15 ct15), sl15⟩)
    (c15 : PySem.W.codeIn K cd15 "joined" = true)
    (k15 : PySem.W.keepIn K (.ref f15) = true)
    (a16 : PySem.W.nsIn K mainGlobals "product" = some (some (.ref f16)))
    (l16 : K.lookup f16 = some ⟨oc16, od16, .func (PySem.W.fnOf "product" "product" (defArgs S_product) (defBody S_product) (defScope S_product) .none kV16 dc16 pm16 an16 cd16 ct16), sl16⟩)
    (c16 : PySem.W.codeIn K cd16 "product" = true)
    (k16 : PySem.W.keepIn K (.ref f16) = true)
    (a17 : PySem.W.nsIn K mainGlobals "order" = some (some (.ref f17)))
    (l17 : K.lookup f17 = some ⟨oc17, od17, .func (PySem.W.fnOf "order" "order" (defArgs S_order) (defBody S_order) (defScope S_order) .none kV17 dc17 pm17 an17 cd17 ct17), sl17⟩)
    (c17 : PySem.W.codeIn K cd17 "order" = true)
    (k17 : PySem.W.keepIn K (.ref f17) = true)
    (a18 : PySem.W.nsIn K mainGlobals "first_greater" = some (some (.ref f18)))
    (l18 : K.lookup f18 = some ⟨oc18, od18, .func (PySem.W.fnOf "first_greater" "first_greater" (defArgs S_first_greater) (defBody S_first_greater) (defScope S_first_greater) .none kV18 dc18 pm18 an18 cd18 ct18), sl18⟩)
    (c18 : PySem.W.codeIn K cd18 "first_greater" = true)
    (k18 : PySem.W.keepIn K (.ref f18) = true)
    (a19 : PySem.W.nsIn K mainGlobals "is_admissible_code" = some (some (.ref f19)))
    (l19 : K.lookup f19 = some ⟨oc19, od19, .func (PySem.W.fnOf "is_admissible_code" "is_admissible_code" (defArgs S_is_admissible_code) (defBody S_is_admissible_code) (defScope S_is_admissible_code) .none kV19 dc19 pm19 an19 cd19 ct19), sl19⟩)
    (c19 : PySem.W.codeIn K cd19 "is_admissible_code" = true)
    (k19 : PySem.W.keepIn K (.ref f19) = true)
    (a20 : PySem.W.nsIn K mainGlobals "require_admissible" = some (some (.ref f20)))
    (l20 : K.lookup f20 = some ⟨oc20, od20, .func (PySem.W.fnOf "require_admissible" "require_admissible" (defArgs S_require_admissible) (defBody S_require_admissible) (defScope S_require_admissible) .none kV20 dc20 pm20 an20 cd20 ct20), sl20⟩)
    (c20 : PySem.W.codeIn K cd20 "require_admissible" = true)
    (k20 : PySem.W.keepIn K (.ref f20) = true)
    (a21 : PySem.W.nsIn K mainGlobals "order_key" = some (some (.ref f21)))
    (l21 : K.lookup f21 = some ⟨oc21, od21, .func (PySem.W.fnOf "order_key" "order_key" (defArgs S_order_key) (defBody S_order_key) (defScope S_order_key) .none kV21 dc21 pm21 an21 cd21 ct21), sl21⟩)
    (c21 : PySem.W.codeIn K cd21 "order_key" = true)
    (k21 : PySem.W.keepIn K (.ref f21) = true)
    (a22 : PySem.W.nsIn K mainGlobals "ascending_points" = some (some (.ref f22)))
    (l22 : K.lookup f22 = some ⟨oc22, od22, .func (PySem.W.fnOf "ascending_points" "ascending_points" (defArgs S_ascending_points) (defBody S_ascending_points) (defScope S_ascending_points) .none kV22 dc22 pm22 an22 (.ref co22) ct22), sl22⟩)
    (c22 : PySem.W.codeIn K (.ref co22) "ascending_points" = true)
    (k22 : PySem.W.keepIn K (.ref f22) = true)
    (cx22 : K.lookup co22 = some ⟨.type "code", cf22, .fields cv22, cl22⟩)
    (cy22 : (cv22[11]? : Option Value) = some (.ref Pt22))
    (cz22 : DL.codeOk cv22 co22 Pt22 = true)
    (cn22 : K.lookup Pt22 = none)
    (a23 : PySem.W.nsIn K mainGlobals "positions" = some (some (.ref f23)))
    (l23 : K.lookup f23 = some ⟨oc23, od23, .func (PySem.W.fnOf "positions" "positions" (defArgs S_positions) (defBody S_positions) (defScope S_positions) .none kV23 dc23 pm23 an23 cd23 ct23), sl23⟩)
    (c23 : PySem.W.codeIn K cd23 "positions" = true)
    (k23 : PySem.W.keepIn K (.ref f23) = true)
    (a24 : PySem.W.nsIn K mainGlobals "permutation" = some (some (.ref f24)))
    (l24 : K.lookup f24 = some ⟨oc24, od24, .func (PySem.W.fnOf "permutation" "permutation" (defArgs S_permutation) (defBody S_permutation) (defScope S_permutation) .none kV24 dc24 pm24 an24 cd24 ct24), sl24⟩)
    (c24 : PySem.W.codeIn K cd24 "permutation" = true)
    (k24 : PySem.W.keepIn K (.ref f24) = true)
    (a25 : PySem.W.nsIn K mainGlobals "law" = some (some (.ref f25)))
    (l25 : K.lookup f25 = some ⟨oc25, od25, .func (PySem.W.fnOf "law" "law" (defArgs S_law) (defBody S_law) (defScope S_law) .none kV25 dc25 pm25 an25 cd25 ct25), sl25⟩)
    (c25 : PySem.W.codeIn K cd25 "law" = true)
    (k25 : PySem.W.keepIn K (.ref f25) = true)
    (z_all : PySem.W.nsIn K mainGlobals "all" = some none)
    (z_enumerate : PySem.W.nsIn K mainGlobals "enumerate" = some none)
    (z_int : PySem.W.nsIn K mainGlobals "int" = some none)
    (z_isinstance : PySem.W.nsIn K mainGlobals "isinstance" = some none)
    (z_len : PySem.W.nsIn K mainGlobals "len" = some none)
    (z_list : PySem.W.nsIn K mainGlobals "list" = some none)
    (z_range : PySem.W.nsIn K mainGlobals "range" = some none)
    (z_sorted : PySem.W.nsIn K mainGlobals "sorted" = some none)
    (z_str : PySem.W.nsIn K mainGlobals "str" = some none)
    (z_tuple : PySem.W.nsIn K mainGlobals "tuple" = some none)
    (z_zip : PySem.W.nsIn K mainGlobals "zip" = some none)
    (c_LETTERS : PySem.W.nsIn K mainGlobals "LETTERS" = some (some (.str "LCR" t_LETTERS)))
    (c_LIMIT : PySem.W.nsIn K mainGlobals "LIMIT" = some (some (.int 40 t_LIMIT)))
    (xg_NotACode : PySem.W.nsIn K mainGlobals "NotACode" = some (some (.ref C_NotACode)))
    (xx_NotACode : PySem.W.excIn K C_NotACode [.type "ValueError", .type "Exception", .type "BaseException", .type "object"] "ValueError.__new__" = true)
    (xk_NotACode : PySem.W.keepIn K (.ref C_NotACode) = true)
    (xb_NotACode : PySem.W.subIn K (.ref C_NotACode) (.type "BaseException") = some true)
    (xt_NotACode : PySem.W.typeIn K (.ref C_NotACode) = some (.type "type"))
    (xg_NotAdmissible : PySem.W.nsIn K mainGlobals "NotAdmissible" = some (some (.ref C_NotAdmissible)))
    (xx_NotAdmissible : PySem.W.excIn K C_NotAdmissible [.type "ValueError", .type "Exception", .type "BaseException", .type "object"] "ValueError.__new__" = true)
    (xk_NotAdmissible : PySem.W.keepIn K (.ref C_NotAdmissible) = true)
    (xb_NotAdmissible : PySem.W.subIn K (.ref C_NotAdmissible) (.type "BaseException") = some true)
    (xt_NotAdmissible : PySem.W.typeIn K (.ref C_NotAdmissible) = some (.type "type"))
    (xg_TooLong : PySem.W.nsIn K mainGlobals "TooLong" = some (some (.ref C_TooLong)))
    (xx_TooLong : PySem.W.excIn K C_TooLong [.type "ValueError", .type "Exception", .type "BaseException", .type "object"] "ValueError.__new__" = true)
    (xk_TooLong : PySem.W.keepIn K (.ref C_TooLong) = true)
    (xb_TooLong : PySem.W.subIn K (.ref C_TooLong) (.type "BaseException") = some true)
    (xt_TooLong : PySem.W.typeIn K (.ref C_TooLong) = some (.type "type"))
    (dg_SWAPPED : PySem.W.nsIn K mainGlobals "SWAPPED" = some (some (.ref d_SWAPPED)))
    (dl_SWAPPED : K.lookup d_SWAPPED = some ⟨.type "dict", none, .dict es_SWAPPED nn_SWAPPED, #[]⟩)
    (dk_SWAPPED : PySem.W.KeysLit w.params es_SWAPPED.toList)
    (dv0_SWAPPED : PySem.W.nsIn K d_SWAPPED "L" = some (some (.str "R" tk_SWAPPED_0)))
    (dv1_SWAPPED : PySem.W.nsIn K d_SWAPPED "C" = some (some (.str "C" tk_SWAPPED_1)))
    (dv2_SWAPPED : PySem.W.nsIn K d_SWAPPED "R" = some (some (.str "L" tk_SWAPPED_2)))
    (nq11 : Pt11 ≠ Pt22) :
    ∃ (fd : FuncData) (tb : List (Addr × Addr)) (tq : Addr → Option Str) (μ : Mu), (∀ p ∈ tb, h.get? p.2 = some { cls := .none, data := .fields #[] }) ∧ (∀ p ∈ tb, K.lookup p.2 = none) ∧ (∀ p ∈ tb, PySem.W.CodeHd h p.1 p.2) ∧ (∀ (s : Shared) (u : Value), BindsTo s fd ⟨[u], []⟩ [("script", u)]) ∧ Holds μ ∧
      ∀ base : Heap, K.In base → base.Ns mainGlobals mg → (∀ p ∈ tb, GxR.TabB base mg p.1 p.2) → FnG P w K mg base ⟨tb.map (·.2), tq⟩ 8 fa fd ["script"] μ := by
  have e : f25 = fa := by have e := hfa.symm.trans (PySem.W.mg_of X G a25); cases e; rfl
  subst e
  have F0 := fun_mk (st := S_law_open) l0 c0 k0
  have A0 : At K mg "_law_open" S_law_open ["script"] f0 _ := ⟨F0, PySem.W.mg_of X G a0, F0.binds (ps := ["script"]) fun _ _ _ _ _ _ us hl => match us, hl with | [_], _ => rfl⟩
  have F1 := fun_mk (st := S_law_anew) l1 c1 k1
  have A1 : At K mg "_law_anew" S_law_anew ["pen"] f1 _ := ⟨F1, PySem.W.mg_of X G a1, F1.binds (ps := ["pen"]) fun _ _ _ _ _ _ us hl => match us, hl with | [_], _ => rfl⟩
  have F2 := fun_mk (st := S_law_spread) l2 c2 k2
  have A2 : At K mg "_law_spread" S_law_spread ["cell", "at"] f2 _ := ⟨F2, PySem.W.mg_of X G a2, F2.binds (ps := ["cell", "at"]) fun _ _ _ _ _ _ us hl => match us, hl with | [_, _], _ => rfl⟩
  have F3 := fun_mk (st := S_law_take) l3 c3 k3
  have A3 : At K mg "_law_take" S_law_take ["pen", "many"] f3 _ := ⟨F3, PySem.W.mg_of X G a3, F3.binds (ps := ["pen", "many"]) fun _ _ _ _ _ _ us hl => match us, hl with | [_, _], _ => rfl⟩
  have F4 := fun_mk (st := S_law_one) l4 c4 k4
  have A4 : At K mg "_law_one" S_law_one ["pen", "some"] f4 _ := ⟨F4, PySem.W.mg_of X G a4, F4.binds (ps := ["pen", "some"]) fun _ _ _ _ _ _ us hl => match us, hl with | [_, _], _ => rfl⟩
  have F5 := fun_mk (st := S_law_letters) l5 c5 k5
  have A5 : At K mg "_law_letters" S_law_letters ["pen", "size"] f5 _ := ⟨F5, PySem.W.mg_of X G a5, F5.binds (ps := ["pen", "size"]) fun _ _ _ _ _ _ us hl => match us, hl with | [_, _], _ => rfl⟩
  have F6 := fun_mk (st := S_law_root) l6 c6 k6
  have A6 : At K mg "_law_root" S_law_root ["word"] f6 _ := ⟨F6, PySem.W.mg_of X G a6, F6.binds (ps := ["word"]) fun _ _ _ _ _ _ us hl => match us, hl with | [_], _ => rfl⟩
  have F7 := fun_mk (st := S_law_compare) l7 c7 k7
  have A7 : At K mg "_law_compare" S_law_compare ["first", "second"] f7 _ := ⟨F7, PySem.W.mg_of X G a7, F7.binds (ps := ["first", "second"]) fun _ _ _ _ _ _ us hl => match us, hl with | [_, _], _ => rfl⟩
  have F8 := fun_mk (st := S_law_greatest_turn) l8 c8 k8
  have A8 : At K mg "_law_greatest_turn" S_law_greatest_turn ["word"] f8 _ := ⟨F8, PySem.W.mg_of X G a8, F8.binds (ps := ["word"]) fun _ _ _ _ _ _ us hl => match us, hl with | [_], _ => rfl⟩
  have F9 := fun_mk (st := S_law_product) l9 c9 k9
  have A9 : At K mg "_law_product" S_law_product ["first", "second"] f9 _ := ⟨F9, PySem.W.mg_of X G a9, F9.binds (ps := ["first", "second"]) fun _ _ _ _ _ _ us hl => match us, hl with | [_, _], _ => rfl⟩
  have F10 := fun_mk (st := S_law_draw) l10 c10 k10
  have A10 : At K mg "_law_draw" S_law_draw ["pen", "most"] f10 _ := ⟨F10, PySem.W.mg_of X G a10, F10.binds (ps := ["pen", "most"]) fun _ _ _ _ _ _ us hl => match us, hl with | [_, _], _ => rfl⟩
  have F11 := fun_mk (st := S_is_code) l11 c11 k11
  have A11 : At K mg "is_code" S_is_code ["value"] f11 _ := ⟨F11, PySem.W.mg_of X G a11, F11.binds (ps := ["value"]) fun _ _ _ _ _ _ us hl => match us, hl with | [_], _ => rfl⟩
  have F12 := fun_mk (st := S_require_code) l12 c12 k12
  have A12 : At K mg "require_code" S_require_code ["value"] f12 _ := ⟨F12, PySem.W.mg_of X G a12, F12.binds (ps := ["value"]) fun _ _ _ _ _ _ us hl => match us, hl with | [_], _ => rfl⟩
  have F13 := fun_mk (st := S_is_odd) l13 c13 k13
  have A13 : At K mg "is_odd" S_is_odd ["letters"] f13 _ := ⟨F13, PySem.W.mg_of X G a13, F13.binds (ps := ["letters"]) fun _ _ _ _ _ _ us hl => match us, hl with | [_], _ => rfl⟩
  have F14 := fun_mk (st := S_turned) l14 c14 k14
  have A14 : At K mg "_turned" S_turned ["letters", "start"] f14 _ := ⟨F14, PySem.W.mg_of X G a14, F14.binds (ps := ["letters", "start"]) fun _ _ _ _ _ _ us hl => match us, hl with | [_, _], _ => rfl⟩
  have F15 := fun_mk (st := S_joined) l15 c15 k15
  have A15 : At K mg "joined" S_joined ["first", "second"] f15 _ := ⟨F15, PySem.W.mg_of X G a15, F15.binds (ps := ["first", "second"]) fun _ _ _ _ _ _ us hl => match us, hl with | [_, _], _ => rfl⟩
  have F16 := fun_mk (st := S_product) l16 c16 k16
  have A16 : At K mg "product" S_product ["first", "second"] f16 _ := ⟨F16, PySem.W.mg_of X G a16, F16.binds (ps := ["first", "second"]) fun _ _ _ _ _ _ us hl => match us, hl with | [_, _], _ => rfl⟩
  have F17 := fun_mk (st := S_order) l17 c17 k17
  have A17 : At K mg "order" S_order ["first", "second"] f17 _ := ⟨F17, PySem.W.mg_of X G a17, F17.binds (ps := ["first", "second"]) fun _ _ _ _ _ _ us hl => match us, hl with | [_, _], _ => rfl⟩
  have F18 := fun_mk (st := S_first_greater) l18 c18 k18
  have A18 : At K mg "first_greater" S_first_greater ["letters"] f18 _ := ⟨F18, PySem.W.mg_of X G a18, F18.binds (ps := ["letters"]) fun _ _ _ _ _ _ us hl => match us, hl with | [_], _ => rfl⟩
  have F19 := fun_mk (st := S_is_admissible_code) l19 c19 k19
  have A19 : At K mg "is_admissible_code" S_is_admissible_code ["value"] f19 _ := ⟨F19, PySem.W.mg_of X G a19, F19.binds (ps := ["value"]) fun _ _ _ _ _ _ us hl => match us, hl with | [_], _ => rfl⟩
  have F20 := fun_mk (st := S_require_admissible) l20 c20 k20
  have A20 : At K mg "require_admissible" S_require_admissible ["value"] f20 _ := ⟨F20, PySem.W.mg_of X G a20, F20.binds (ps := ["value"]) fun _ _ _ _ _ _ us hl => match us, hl with | [_], _ => rfl⟩
  have F21 := fun_mk (st := S_order_key) l21 c21 k21
  have A21 : At K mg "order_key" S_order_key ["code"] f21 _ := ⟨F21, PySem.W.mg_of X G a21, F21.binds (ps := ["code"]) fun _ _ _ _ _ _ us hl => match us, hl with | [_], _ => rfl⟩
  have F22 := fun_mk (st := S_ascending_points) l22 c22 k22
  have A22 : At K mg "ascending_points" S_ascending_points ["code"] f22 _ := ⟨F22, PySem.W.mg_of X G a22, F22.binds (ps := ["code"]) fun _ _ _ _ _ _ us hl => match us, hl with | [_], _ => rfl⟩
  have F23 := fun_mk (st := S_positions) l23 c23 k23
  have A23 : At K mg "positions" S_positions ["code"] f23 _ := ⟨F23, PySem.W.mg_of X G a23, F23.binds (ps := ["code"]) fun _ _ _ _ _ _ us hl => match us, hl with | [_], _ => rfl⟩
  have F24 := fun_mk (st := S_permutation) l24 c24 k24
  have A24 : At K mg "permutation" S_permutation ["code"] f24 _ := ⟨F24, PySem.W.mg_of X G a24, F24.binds (ps := ["code"]) fun _ _ _ _ _ _ us hl => match us, hl with | [_], _ => rfl⟩
  have F25 := fun_mk (st := S_law) l25 c25 k25
  have A25 : At K mg "law" S_law ["script"] f25 _ := ⟨F25, PySem.W.mg_of X G a25, F25.binds (ps := ["script"]) fun _ _ _ _ _ _ us hl => match us, hl with | [_], _ => rfl⟩
  have n_all : mg "all" = none := PySem.W.mg_none_of X G z_all
  have n_enumerate : mg "enumerate" = none := PySem.W.mg_none_of X G z_enumerate
  have n_int : mg "int" = none := PySem.W.mg_none_of X G z_int
  have n_isinstance : mg "isinstance" = none := PySem.W.mg_none_of X G z_isinstance
  have n_len : mg "len" = none := PySem.W.mg_none_of X G z_len
  have n_list : mg "list" = none := PySem.W.mg_none_of X G z_list
  have n_range : mg "range" = none := PySem.W.mg_none_of X G z_range
  have n_sorted : mg "sorted" = none := PySem.W.mg_none_of X G z_sorted
  have n_str : mg "str" = none := PySem.W.mg_none_of X G z_str
  have n_tuple : mg "tuple" = none := PySem.W.mg_none_of X G z_tuple
  have n_zip : mg "zip" = none := PySem.W.mg_none_of X G z_zip
  have g_LETTERS := PySem.W.mg_of X G c_LETTERS
  have g_LIMIT := PySem.W.mg_of X G c_LIMIT
  have x_NotACode : ExT K mg "NotACode" C_NotACode := ⟨PySem.W.mg_of X G xg_NotACode, xx_NotACode, xk_NotACode, xb_NotACode, xt_NotACode⟩
  have x_NotAdmissible : ExT K mg "NotAdmissible" C_NotAdmissible := ⟨PySem.W.mg_of X G xg_NotAdmissible, xx_NotAdmissible, xk_NotAdmissible, xb_NotAdmissible, xt_NotAdmissible⟩
  have x_TooLong : ExT K mg "TooLong" C_TooLong := ⟨PySem.W.mg_of X G xg_TooLong, xx_TooLong, xk_TooLong, xb_TooLong, xt_TooLong⟩
  have G_SWAPPED : GDct K w mg "SWAPPED" [("L", "R"), ("C", "C"), ("R", "L")] := .mk3 (PySem.W.mg_of X G dg_SWAPPED) dl_SWAPPED dk_SWAPPED (by intro kv hkv; simp only [List.mem_cons, List.not_mem_nil, or_false] at hkv; rcases hkv with rfl | rfl | rfl <;> first | exact ⟨_, dv0_SWAPPED⟩ | exact ⟨_, dv1_SWAPPED⟩ | exact ⟨_, dv2_SWAPPED⟩)
  have T11 := own "is_code" (by simp) f11 co11 Pt11 _ _ _ _ _ _ (PySem.W.mg_of X G a11) l11 rfl rfl cx11 cy11
  have T22 := own "ascending_points" (by simp) f22 co22 Pt22 _ _ _ _ _ _ (PySem.W.mg_of X G a22) l22 rfl rfl cx22 cy22
  refine ⟨PySem.W.fnOf "law" "law" (defArgs S_law) (defBody S_law) (defScope S_law) .none kV25 dc25 pm25 an25 cd25 ct25, [(co11, Pt11), (co22, Pt22)], (fun a => if a = Pt22 then some "ascending_points.<locals>.<lambda>" else none), m_law, ?_, ?_, ?_, fun s u => .of_eq rfl, hH, fun base KX GX TB => ?_⟩
  · exact (fun p hp => by simp only [List.mem_cons, List.not_mem_nil, or_false] at hp; rcases hp with rfl | rfl <;> first | exact T11 | exact T22)
  · exact (fun p hp => by simp only [List.mem_cons, List.not_mem_nil, or_false] at hp; rcases hp with rfl | rfl <;> first | exact cn11 | exact cn22)
  · exact (fun p hp => by simp only [List.mem_cons, List.not_mem_nil, or_false] at hp; rcases hp with rfl | rfl <;> first | exact DL.codeHd_of X cx11 cy11 cz11 | exact DL.codeHd_of X cx22 cy22 cz22)
  have D_law_open := ok_law_open (P := P) (w := w) (base := base) (tb := ⟨([(co11, Pt11), (co22, Pt22)] : List (Addr × Addr)).map (·.2), (fun a => if a = Pt22 then some "ascending_points.<locals>.<lambda>" else none)⟩) A0 n_enumerate n_list
  have D_law_anew := ok_law_anew (P := P) (w := w) (base := base) (tb := ⟨([(co11, Pt11), (co22, Pt22)] : List (Addr × Addr)).map (·.2), (fun a => if a = Pt22 then some "ascending_points.<locals>.<lambda>" else none)⟩) A1
  have D_law_spread := ok_law_spread (P := P) (w := w) (base := base) (tb := ⟨([(co11, Pt11), (co22, Pt22)] : List (Addr × Addr)).map (·.2), (fun a => if a = Pt22 then some "ascending_points.<locals>.<lambda>" else none)⟩) A2
  have D_law_take := ok_law_take (P := P) (w := w) (base := base) (tb := ⟨([(co11, Pt11), (co22, Pt22)] : List (Addr × Addr)).map (·.2), (fun a => if a = Pt22 then some "ascending_points.<locals>.<lambda>" else none)⟩) A3 D_law_spread n_len
  have D_law_one := ok_law_one (P := P) (w := w) (base := base) (tb := ⟨([(co11, Pt11), (co22, Pt22)] : List (Addr × Addr)).map (·.2), (fun a => if a = Pt22 then some "ascending_points.<locals>.<lambda>" else none)⟩) A4 D_law_take n_len
  have D_law_letters := ok_law_letters (P := P) (w := w) (base := base) (tb := ⟨([(co11, Pt11), (co22, Pt22)] : List (Addr × Addr)).map (·.2), (fun a => if a = Pt22 then some "ascending_points.<locals>.<lambda>" else none)⟩) A5 D_law_one n_range
  have D_law_root := ok_law_root (P := P) (w := w) (base := base) (tb := ⟨([(co11, Pt11), (co22, Pt22)] : List (Addr × Addr)).map (·.2), (fun a => if a = Pt22 then some "ascending_points.<locals>.<lambda>" else none)⟩) A6 n_len n_range
  have D_law_compare := ok_law_compare (P := P) (w := w) (base := base) (tb := ⟨([(co11, Pt11), (co22, Pt22)] : List (Addr × Addr)).map (·.2), (fun a => if a = Pt22 then some "ascending_points.<locals>.<lambda>" else none)⟩) A7 n_int n_zip
  have D_law_greatest_turn := ok_law_greatest_turn (P := P) (w := w) (base := base) (tb := ⟨([(co11, Pt11), (co22, Pt22)] : List (Addr × Addr)).map (·.2), (fun a => if a = Pt22 then some "ascending_points.<locals>.<lambda>" else none)⟩) A8 D_law_compare n_len n_range
  have D_law_product := ok_law_product (P := P) (w := w) (base := base) (tb := ⟨([(co11, Pt11), (co22, Pt22)] : List (Addr × Addr)).map (·.2), (fun a => if a = Pt22 then some "ascending_points.<locals>.<lambda>" else none)⟩) A9 n_int
  have D_law_draw := ok_law_draw (P := P) (w := w) (base := base) (tb := ⟨([(co11, Pt11), (co22, Pt22)] : List (Addr × Addr)).map (·.2), (fun a => if a = Pt22 then some "ascending_points.<locals>.<lambda>" else none)⟩) A10 D_law_take D_law_letters D_law_root D_law_greatest_turn D_law_product D_law_one n_len
  have D_is_code := ok_is_code (P := P) (w := w) (base := base) (tb := ⟨([(co11, Pt11), (co22, Pt22)] : List (Addr × Addr)).map (·.2), (fun a => if a = Pt22 then some "ascending_points.<locals>.<lambda>" else none)⟩) A11 n_all n_isinstance n_len n_str g_LIMIT rfl (TB (co11, Pt11) (by simp)) (by simp) (if_neg nq11)
  have D_require_code := ok_require_code (P := P) (w := w) (base := base) (tb := ⟨([(co11, Pt11), (co22, Pt22)] : List (Addr × Addr)).map (·.2), (fun a => if a = Pt22 then some "ascending_points.<locals>.<lambda>" else none)⟩) A12 D_is_code x_NotACode
  have D_is_odd := ok_is_odd (P := P) (w := w) (base := base) (tb := ⟨([(co11, Pt11), (co22, Pt22)] : List (Addr × Addr)).map (·.2), (fun a => if a = Pt22 then some "ascending_points.<locals>.<lambda>" else none)⟩) A13
  have D_turned := ok_turned (P := P) (w := w) (base := base) (tb := ⟨([(co11, Pt11), (co22, Pt22)] : List (Addr × Addr)).map (·.2), (fun a => if a = Pt22 then some "ascending_points.<locals>.<lambda>" else none)⟩) A14 D_is_odd G_SWAPPED
  have D_joined := ok_joined (P := P) (w := w) (base := base) (tb := ⟨([(co11, Pt11), (co22, Pt22)] : List (Addr × Addr)).map (·.2), (fun a => if a = Pt22 then some "ascending_points.<locals>.<lambda>" else none)⟩) A15 D_turned
  have D_product := ok_product (P := P) (w := w) (base := base) (tb := ⟨([(co11, Pt11), (co22, Pt22)] : List (Addr × Addr)).map (·.2), (fun a => if a = Pt22 then some "ascending_points.<locals>.<lambda>" else none)⟩) A16 D_require_code D_joined n_len g_LIMIT x_TooLong
  have D_order := ok_order (P := P) (w := w) (base := base) (tb := ⟨([(co11, Pt11), (co22, Pt22)] : List (Addr × Addr)).map (·.2), (fun a => if a = Pt22 then some "ascending_points.<locals>.<lambda>" else none)⟩) A17 n_zip g_LETTERS
  have D_first_greater := ok_first_greater (P := P) (w := w) (base := base) (tb := ⟨([(co11, Pt11), (co22, Pt22)] : List (Addr × Addr)).map (·.2), (fun a => if a = Pt22 then some "ascending_points.<locals>.<lambda>" else none)⟩) A18 D_order n_len n_range
  have D_is_admissible_code := ok_is_admissible_code (P := P) (w := w) (base := base) (tb := ⟨([(co11, Pt11), (co22, Pt22)] : List (Addr × Addr)).map (·.2), (fun a => if a = Pt22 then some "ascending_points.<locals>.<lambda>" else none)⟩) A19 D_first_greater D_is_code
  have D_require_admissible := ok_require_admissible (P := P) (w := w) (base := base) (tb := ⟨([(co11, Pt11), (co22, Pt22)] : List (Addr × Addr)).map (·.2), (fun a => if a = Pt22 then some "ascending_points.<locals>.<lambda>" else none)⟩) A20 D_is_admissible_code x_NotAdmissible
  have D_order_key := ok_order_key (P := P) (w := w) (base := base) (tb := ⟨([(co11, Pt11), (co22, Pt22)] : List (Addr × Addr)).map (·.2), (fun a => if a = Pt22 then some "ascending_points.<locals>.<lambda>" else none)⟩) A21 g_LETTERS
  have D_ascending_points := ok_ascending_points (P := P) (w := w) (base := base) (tb := ⟨([(co11, Pt11), (co22, Pt22)] : List (Addr × Addr)).map (·.2), (fun a => if a = Pt22 then some "ascending_points.<locals>.<lambda>" else none)⟩) A22 D_order_key n_len n_range n_sorted rfl (TB (co22, Pt22) (by simp)) (by simp) (if_pos rfl)
  have D_positions := ok_positions (P := P) (w := w) (base := base) (tb := ⟨([(co11, Pt11), (co22, Pt22)] : List (Addr × Addr)).map (·.2), (fun a => if a = Pt22 then some "ascending_points.<locals>.<lambda>" else none)⟩) A23 D_require_admissible D_ascending_points n_enumerate n_len n_tuple
  have D_permutation := ok_permutation (P := P) (w := w) (base := base) (tb := ⟨([(co11, Pt11), (co22, Pt22)] : List (Addr × Addr)).map (·.2), (fun a => if a = Pt22 then some "ascending_points.<locals>.<lambda>" else none)⟩) A24 D_positions n_len n_tuple n_zip
  exact ok_law A25 D_law_open D_law_anew D_law_draw D_product D_permutation D_positions n_len n_range n_tuple

set_option maxRecDepth 100000
set_option maxHeartbeats 8000000
open PySem PySem.Spec PyProof.Rows L2 DL
structure Good (n : Nat) (π : PenS) : Prop where
  held : 0 ≤ π.held
  pos : 0 ≤ π.pos
  top : π.pos ≤ n
def primes : List PyData := [.int 2147483629, .int 2147483587, .int 2147483579, .int 2147483563, .int 2147483549, .int 2147483543, .int 2147483497, .int 2147483489, .int 2147483477, .int 2147483423, .int 2147483399, .int 2147483353, .int 2147483323]
theorem prime_at (i : Int) (h0 : 0 ≤ i) (h1 : i < 13) : ∃ p : Int, atI primes i = some (.int p) ∧ 0 < p ∧ p < 2147483648 := by
  obtain ⟨k, rfl⟩ : ∃ k : Nat, i = k := ⟨i.toNat, by omega⟩
  have hk : k < 13 := by omega
  have key : ∀ k : Fin 13, (match atI primes (k.val : Int) with | some (.int p) => decide (0 < p ∧ p < 2147483648) | _ => false) = true := by decide +kernel
  have := key ⟨k, hk⟩
  revert this
  show (match atI primes (k : Int) with | some (.int p) => decide (0 < p ∧ p < 2147483648) | _ => false) = true → _
  cases atI primes (k : Int) with
  | none => intro h; cases h
  | some d =>
    cases d with
    | int p => intro h; exact ⟨p, rfl, of_decide_eq_true h⟩
    | _ => intro h; cases h
theorem mul_lt {a b A B : Int} (h0 : 0 ≤ a) (h1 : a < A) (h2 : 0 ≤ b) (h3 : b < B) : 0 ≤ a * b ∧ a * b ≤ A * B :=
  ⟨Int.mul_nonneg h0 h2, Int.mul_le_mul (by omega) (by omega) h2 (by omega)⟩
theorem spread_ok (c a : Int) (h0 : 0 ≤ a) (h1 : a ≤ 1000000) (π : Pn) {E} {Q : Dv → Pn → Prop} (q : ∀ r, 0 ≤ r → Q (.val (.int r)) π) : wR (m_law_spread [.val (.int c), .val (.int a)] π) E Q := by
  unfold m_law_spread b_law_spread
  refine w_run ?_
  walk_at "dl wgo"
  refine w_ite (fun h => ?_) (fun h => ?_)
  · walk_at "dl wgo"
    refine q _ ?_
    have := of_decide_eq_true h
    have e : (10 : Int) ^ Int.toNat 18 = 1000000000000000000 := by decide
    omega
  · obtain ⟨p1, e1, k1, l1⟩ := prime_at (a % 13) (by omega) (by omega)
    obtain ⟨p2, e2, k2, l2⟩ := prime_at ((a + 5) % 13) (by omega) (by omega)
    obtain ⟨p3, e3, k3, l3⟩ := prime_at ((a + 7) % 13) (by omega) (by omega)
    have g1 := mul_lt (a := c % 1000000007) (b := 2 * a + 69069) (A := 1000000007) (B := 2069070) (by omega) (by omega) (by omega) (by omega)
    walk_at "dl wgo"
    refine o_w_idxL e1 ?_
    generalize c % 1000000007 * (2 * a + 69069) + a * 40503 + 977 = mixed
    walk_at "dl wgo"
    have b1 := Int.emod_nonneg (mixed ^ Int.toNat 3) (show p1 ≠ 0 by omega)
    have b2 := Int.emod_lt_of_pos (mixed ^ Int.toNat 3) k1
    generalize mixed ^ Int.toNat 3 % p1 = one at *
    have g2 := mul_lt (a := one) (b := a + 3) (A := 2147483648) (B := 1000004) (by omega) (by omega) (by omega) (by omega)
    walk_at "dl wgo"
    refine o_w_idxL e2 ?_
    generalize one * (a + 3) + c % 65537 + 5 = two' at *
    walk_at "dl wgo"
    have b3 := Int.emod_nonneg (two' ^ Int.toNat 5) (show p2 ≠ 0 by omega)
    have b4 := Int.emod_lt_of_pos (two' ^ Int.toNat 5) k2
    generalize two' ^ Int.toNat 5 % p2 = two at *
    walk_at "dl wgo"
    refine o_w_idxL e3 ?_
    walk_at "dl wgo"
    have b5 := Int.emod_nonneg ((two + one % 1009 + a) ^ Int.toNat 3) (show p3 ≠ 0 by omega)
    have b6 := Int.emod_lt_of_pos ((two + one % 1009 + a) ^ Int.toNat 3) k3
    generalize (two + one % 1009 + a) ^ Int.toNat 3 % p3 = three at *
    walk_at "dl wgo"
    refine q _ ?_
    omega
theorem anew_ok {n : Nat} {pe : PenS} (g : Good n pe) {E} {Q : Dv → Pn → Prop} (q : ∀ pe, Good n pe → Q .pen (some pe)) : wR (m_law_anew [.pen] (some pe)) E Q := by
  unfold m_law_anew b_law_anew
  refine w_run ?_
  walk_at "dl wgo"
  exact q _ ⟨Int.le_refl _, g.pos, g.top⟩
theorem atI_nat {α : Type} {xs : List α} {i : Int} (h0 : 0 ≤ i) (h1 : i < xs.length) : ∃ x ∈ xs, atI xs i = some x := by
  obtain ⟨k, rfl⟩ : ∃ k : Nat, i = k := ⟨i.toNat, by omega⟩
  have hk : k < xs.length := by omega
  refine ⟨xs[k], List.getElem_mem hk, ?_⟩
  unfold atI ixN
  rw [if_pos h0, if_pos h1]
  show xs[((k : Int)).toNat]? = _
  rw [Int.toNat_natCast, List.getElem?_eq_getElem hk]
theorem take_ok {n : Nat} {pe : PenS} (g : Good n pe) (hn : n ≤ 1000000) {many : Int} (h1 : 0 < many) (h2 : many ≤ 10000000000000000000000000000000000000000) {E} {Q : Dv → Pn → Prop} (q : ∀ r pe, 0 ≤ r → r < many → Good (n + 1) pe → Q (.val (.int r)) (some pe)) : wR (m_law_take [.pen, .val (.int many)] (some pe)) E Q := by
  unfold m_law_take b_law_take
  refine w_run ?_
  obtain ⟨hh, hp, ht⟩ := g
  have fin : ∀ pe : PenS, 0 ≤ pe.held → 0 ≤ pe.pos → pe.pos ≤ n + 1 → Good (n + 1) pe := fun pe a b c => ⟨a, b, by omega⟩
  walk_at "dl wgo"
  refine w_ite (fun h => ?_) (fun h => ?_)
  · walk_at "dl wgo"
    refine w_ite (fun h3 => ?_) (fun h3 => ?_)
    · have h3 := of_decide_eq_true h3
      walk_at "dl wgo"
      obtain ⟨x, hx, ex⟩ := atI_nat (xs := pe.cells.map PyData.int) hp h3
      obtain ⟨i, _, rfl⟩ := List.mem_map.mp hx
      refine o_w_idxL ex ?_
      walk_at "dl wgo"
      refine spread_ok _ _ hp (by omega) _ fun r hr => ?_
      walk_at "dl wgo"
      exact q _ _ (Int.emod_nonneg _ (by omega)) (Int.emod_lt_of_pos _ h1) (fin _ (Int.ediv_nonneg hr (by omega)) (show 0 ≤ pe.pos + 1 by omega) (show pe.pos + 1 ≤ n + 1 by omega))
    · walk_at "dl wgo"
      refine w_ite (fun h4 => ?_) (fun h4 => ?_)
      · have h4 : (0 : Int) < (pe.cells.map PyData.int).length := of_decide_eq_true h4
        walk_at "dl wgo"
        obtain ⟨x, hx, ex⟩ := atI_nat (xs := pe.cells.map PyData.int) (i := (pe.pos * 5 + 3) % ((pe.cells.map PyData.int).length : Int)) (Int.emod_nonneg _ (by omega)) (Int.emod_lt_of_pos _ h4)
        obtain ⟨i, _, rfl⟩ := List.mem_map.mp hx
        refine o_w_idxL ex ?_
        walk_at "dl wgo"
        refine o_w_mod ?_ ?_
        · rw [show (10 : Int) ^ Int.toNat 17 = 100000000000000000 by decide]; omega
        walk_at "dl wgo"
        refine spread_ok _ _ hp (by omega) _ fun r hr => ?_
        walk_at "dl wgo"
        exact q _ _ (Int.emod_nonneg _ (by omega)) (Int.emod_lt_of_pos _ h1) (fin _ (Int.ediv_nonneg hr (by omega)) (show 0 ≤ pe.pos + 1 by omega) (show pe.pos + 1 ≤ n + 1 by omega))
      · walk_at "dl wgo"
        refine spread_ok _ _ hp (by omega) _ fun r hr => ?_
        walk_at "dl wgo"
        exact q _ _ (Int.emod_nonneg _ (by omega)) (Int.emod_lt_of_pos _ h1) (fin _ (Int.ediv_nonneg hr (by omega)) (show 0 ≤ pe.pos + 1 by omega) (show pe.pos + 1 ≤ n + 1 by omega))
  · walk_at "dl wgo"
    exact q _ _ (Int.emod_nonneg _ (by omega)) (Int.emod_lt_of_pos _ h1) (fin _ (Int.ediv_nonneg hh (by omega)) hp (show pe.pos ≤ n + 1 by omega))
theorem Good.mono {n m : Nat} {pe : PenS} (g : Good n pe) (h : n ≤ m) : Good m pe := ⟨g.held, g.pos, by have := g.top; omega⟩

set_option maxRecDepth 100000
set_option maxHeartbeats 8000000
open PySem PySem.Spec PyProof.Rows L2 DL
theorem one_ok {n : Nat} {pe : PenS} (g : Good n pe) (hn : n ≤ 1000000) {ds : List PyData} (h0 : ds ≠ []) (h2 : ds.length ≤ 1000000) {E} {Q : Dv → Pn → Prop} (q : ∀ d pe, d ∈ ds → Good (n + 1) pe → Q (.val d) (some pe)) : wR (m_law_one [.pen, .val (.list ds)] (some pe)) E Q := by
  unfold m_law_one b_law_one
  refine w_run ?_
  have hl : 0 < ds.length := List.length_pos_iff.mpr h0
  walk_at "dl wgo"
  refine take_ok g hn (by omega) (by omega) fun r pe' r0 r1 g' => ?_
  obtain ⟨x, hx, ex⟩ := atI_nat (xs := ds) r0 r1
  refine o_w_idxL ex ?_
  exact q _ _ hx g'

set_option maxRecDepth 100000
set_option maxHeartbeats 8000000
open PySem PySem.Spec PyProof.Rows L2 DL
/-! ### texts as lists of code points -/
abbrev tx (x : List Nat) : PyData := .str (SX.S x)
theorem lit_e : Str.ofString "" = SX.S [] := rfl
theorem lit_L : Str.ofString "L" = SX.S [76] := by decide +kernel
theorem lit_R : Str.ofString "R" = SX.S [82] := by decide +kernel
theorem lit_C : Str.ofString "C" = SX.S [67] := by decide +kernel
theorem lit_LC : Str.ofString "LC" = SX.S [76, 67] := by decide +kernel
theorem lit_RC : Str.ofString "RC" = SX.S [82, 67] := by decide +kernel
theorem lit_LR : Str.ofString "LR" = SX.S [76, 82] := by decide +kernel
theorem lit_LCR : Str.ofString "LCR" = SX.S [76, 67, 82] := by decide +kernel
def LR (x : List Nat) : Prop := ∀ c ∈ x, c = 76 ∨ c = 82
theorem strsOf_tx : ∀ ws : List (List Nat), strsOf (ws.map tx) = some (ws.map SX.S)
  | [] => rfl
  | w :: ws => by
    show (strsOf (ws.map tx)).map (SX.S w :: ·) = _
    rw [strsOf_tx ws]; rfl
theorem joinL_nil : ∀ ws : List (List Nat), TL.joinL [] ws = ws.flatten
  | [] => rfl
  | [w] => by simp [TL.joinL]
  | w :: v :: r => by
    have := joinL_nil (v :: r)
    simp only [TL.joinL, List.flatten_cons, List.nil_append] at *
    rw [this]
theorem join_ok {ws : List (List Nat)} (h : ws.flatten.length ≤ 16777216) {Q : Dv → Prop} (q : Q (.val (tx ws.flatten))) : wO (mJoin (.val (tx [])) [.val (.list (ws.map tx))]) Q := by
  show wO ((strsOf (ws.map tx)).bind fun ys => _) Q
  rw [strsOf_tx]
  show wO (if ((ws.map SX.S).map (·.length)).sum + (ws.map SX.S).length * (SX.S []).length ≤ 16777216 then _ else _) Q
  rw [if_pos (by rw [SX.lens, SX.S_len]; simpa [List.length_flatten] using h)]
  show Q (.val (.str (Txt.join (SX.S []) (ws.map SX.S))))
  rw [SX.join_S, joinL_nil]; exact q
theorem flat_one : ∀ x : List Nat, (x.map fun c => [c]).flatten = x
  | [] => rfl
  | c :: x => by rw [List.map_cons, List.flatten_cons, flat_one x]; rfl
theorem sgn_eq (a b : Nat) : (SX.S [a] == SX.S [b]) = decide (a = b) := by rw [SX.S_beq_eq]; simp
theorem g2_ok {i j : Nat} {a b : PyData} {ρ : List Sv} {Q : List Sv → Prop} (q : Q ((ρ.set i (.val (.val a))).set j (.val (.val b)))) : wO (gT 2 (gsC (gN i) (gsC (gN j) gsN)) (.tuple [a, b]) ρ) Q := q

set_option maxRecDepth 100000
set_option maxHeartbeats 8000000
open PySem PySem.Spec PyProof.Rows L2 DL
/-! ### the script's cells -/
theorem intsOf_ints : ∀ l : List Int, intsOf (l.map PyData.int) = some l
  | [] => rfl
  | i :: l => by
    show (intsOf (l.map PyData.int)).map (i :: ·) = _
    rw [intsOf_ints l]; rfl
theorem open_ok {ns : List Int} (hl : ns.length ≤ 63) {E} {Q : Dv → Pn → Prop} (q : ∀ pe, Good 0 pe → Q .pen (some pe)) : wR (m_law_open [.scr ns] none) E Q := by
  unfold m_law_open b_law_open
  refine w_run ?_
  walk_at "dl wgo"
  refine w_listL ?_
  walk_at "dl wgo"
  refine w_enumI ?_
  walk_at "dl wgo"
  rw [show (12 : Int) = ((12 : Nat) : Int) from rfl, show (63 : Int) = ((63 : Nat) : Int) from rfl, cutD_to, cutD_fromto]
  refine w_go (I := fun rest ρ π => ∃ (cells : List Int) (e2 e3 : Sv), ρ = [.val (.scr ns), .own (cells.map PyData.int), e2, e3] ∧ π = none ∧ (∀ d ∈ rest, ∃ (k : Nat) (c : Int), d = .tuple [.int k, .int c]) ∧ (rest ≠ [] → cells.length = 12)) ?_ ?_ ⟨ns.take 12, _, _, by rw [List.map_take]; rfl, rfl, ?_, ?_⟩
  · rintro d r ρ π ⟨cells, e2, e3, rfl, rfl, hd, hc⟩
    obtain ⟨k, c, rfl⟩ := hd d List.mem_cons_self
    have hc := hc (by simp)
    refine g2_ok ?_
    obtain ⟨x, hx, ex⟩ := atI_nat (xs := cells.map PyData.int) (i := (k : Int) % 12) (by omega) (by rw [List.length_map, hc]; omega)
    obtain ⟨i, _, rfl⟩ := List.mem_map.mp hx
    walk_at "dl wgo"
    refine o_w_idxL ex ?_
    walk_at "dl wgo"
    refine ⟨_, _, ((k : Int) % 12).toNat, rfl, rfl, ?_, cells.set ((k : Int) % 12).toNat (i + c), _, _, by rw [List.map_set]; rfl, rfl, fun d h => hd d (List.mem_cons_of_mem _ h), fun _ => by rw [List.length_set]; exact hc⟩
    unfold ixN
    rw [if_pos (by omega), if_pos (by rw [List.length_map, hc]; omega)]; rfl
  · rintro ρ π ⟨cells, e2, e3, rfl, rfl, hd, hc⟩
    refine w_retPen rfl (intsOf_ints cells) ?_
    exact q _ ⟨Int.le_refl _, Int.le_refl _, Int.le_refl _⟩
  · intro d hd
    obtain ⟨i, hi⟩ := List.getElem?_of_mem hd
    obtain ⟨e, he, rfl⟩ := enumL_get hi
    have := List.mem_of_getElem? he
    have := List.mem_of_mem_take (List.mem_of_mem_drop this)
    obtain ⟨c, _, rfl⟩ := List.mem_map.mp this
    exact ⟨i, c, rfl⟩
  · intro h
    rw [List.length_take]
    by_cases hn : 12 ≤ ns.length
    · omega
    · refine absurd ?_ h
      rw [List.drop_eq_nil_of_le (by rw [List.length_take, List.length_map]; omega)]
      rfl

set_option maxRecDepth 100000
set_option maxHeartbeats 8000000
open PySem PySem.Spec PyProof.Rows L2 DL
/-! ### the order -/
def ix : Nat → Int
  | 76 => 0
  | 67 => 1
  | _ => 2
def Lt3 (x : List Nat) : Prop := ∀ c ∈ x, c = 76 ∨ c = 67 ∨ c = 82
def ord : Int → List Nat → List Nat → Int
  | s, a :: x, b :: y => if a = b then ord (if a = 82 then -s else s) x y else if ix a > ix b then s else -s
  | _, _, _ => 0
theorem index_ok {c : Nat} (h : c = 76 ∨ c = 67 ∨ c = 82) {Q : Dv → Prop} (q : Q (.val (.int (ix c)))) : wO (mIndex (.val (tx [76, 67, 82])) [.val (tx [c])]) Q := by
  have e : (Builtin.Str.occurrences (SX.S [76, 67, 82]) (SX.S [c]) 0 (SX.S [76, 67, 82]).length 1).head? = some (ix c).toNat := by
    rcases h with rfl | rfl | rfl <;> decide +kernel
  show wO ((Builtin.Str.occurrences (SX.S [76, 67, 82]) (SX.S [c]) 0 (SX.S [76, 67, 82]).length 1).head?.map fun i => Dv.val (.int (i : Nat))) Q
  rw [e]
  rcases h with rfl | rfl | rfl <;> exact q
theorem signs_S (x : List Nat) : DL.signs (SX.S x) = x.map fun c => tx [c] := rfl
theorem zip_cons (a b : Nat) (x y : List Nat) : zipL (DL.signs (SX.S (a :: x))) (DL.signs (SX.S (b :: y))) = .tuple [tx [a], tx [b]] :: zipL (DL.signs (SX.S x)) (DL.signs (SX.S y)) := rfl
/-! ### the order's laws -/
theorem ord_val : ∀ {x y : List Nat} {s : Int}, s = 1 ∨ s = -1 → ord s x y = 1 ∨ ord s x y = 0 ∨ ord s x y = -1
  | [], _, _, _ => .inr (.inl rfl)
  | _ :: _, [], _, _ => .inr (.inl rfl)
  | a :: x, b :: y, s, h => by
    have e0 : ord s (a :: x) (b :: y) = if a = b then ord (if a = 82 then -s else s) x y else if ix a > ix b then s else -s := rfl
    rw [e0]
    by_cases e : a = b
    · rw [if_pos e]
      exact ord_val (by by_cases q : a = 82 <;> simp [q] <;> omega)
    · rw [if_neg e]
      by_cases q : ix a > ix b
      · rw [if_pos q]; omega
      · rw [if_neg q]; omega
theorem ix_ne {a b : Nat} (ha : a = 76 ∨ a = 67 ∨ a = 82) (hb : b = 76 ∨ b = 67 ∨ b = 82) (h : a ≠ b) : ix a ≠ ix b := by
  rcases ha with rfl | rfl | rfl <;> rcases hb with rfl | rfl | rfl <;> first | exact absurd rfl h | decide
theorem ord_anti : ∀ {x y : List Nat} {s : Int}, Lt3 x → Lt3 y → ord s y x = - ord s x y
  | [], [], _, _, _ => rfl
  | [], _ :: _, _, _, _ => rfl
  | _ :: _, [], _, _, _ => rfl
  | a :: x, b :: y, s, hx, hy => by
    show (if b = a then ord (if b = 82 then -s else s) y x else if ix b > ix a then s else -s) = - (if a = b then ord (if a = 82 then -s else s) x y else if ix a > ix b then s else -s)
    by_cases e : a = b
    · subst e
      simp only [if_pos]
      exact ord_anti (fun c h => hx c (List.mem_cons_of_mem _ h)) fun c h => hy c (List.mem_cons_of_mem _ h)
    · simp only [if_neg e, if_neg (Ne.symm e)]
      have := ix_ne (hx a List.mem_cons_self) (hy b List.mem_cons_self) e
      by_cases q : ix a > ix b
      · rw [if_pos q, if_neg (by omega)]
      · rw [if_neg q, if_pos (by omega)]; omega
theorem ord_self : ∀ {x : List Nat} {s : Int}, ord s x x = 0
  | [], _ => rfl
  | a :: x, s => by
    show (if a = a then ord (if a = 82 then -s else s) x x else _) = 0
    rw [if_pos rfl]; exact ord_self
/-- a code, read from its front -/
def Cd : List Nat → Prop
  | [] => False
  | [c] => c = 67
  | c :: d :: r => (c = 76 ∨ c = 82) ∧ Cd (d :: r)
theorem Cd.of : ∀ {w : List Nat}, LR w → Cd (w ++ [67])
  | [], _ => rfl
  | [c], h => ⟨h c List.mem_cons_self, rfl⟩
  | c :: d :: w, h => ⟨h c List.mem_cons_self, Cd.of (w := d :: w) fun y hy => h y (List.mem_cons_of_mem _ hy)⟩
theorem Cd.lt3 : ∀ {x : List Nat}, Cd x → Lt3 x
  | [], h, _, _ => h.elim
  | [c], h, y, hy => by
    have h : c = 67 := h
    simp only [List.mem_cons, List.not_mem_nil, or_false] at hy
    subst hy; exact .inr (.inl h)
  | c :: d :: r, h, y, hy => by
    rcases List.mem_cons.mp hy with rfl | hy
    · rcases h.1 with h | h
      · exact .inl h
      · exact .inr (.inr h)
    · exact Cd.lt3 h.2 y hy
theorem ord_zero : ∀ {x y : List Nat} {s : Int}, Cd x → Cd y → s ≠ 0 → ord s x y = 0 → x = y
  | [], _, _, h, _, _, _ => h.elim
  | _ :: _, [], _, _, h, _, _ => h.elim
  | a :: x, b :: y, s, hx, hy, hs, e => by
    have e : (if a = b then ord (if a = 82 then -s else s) x y else if ix a > ix b then s else -s) = 0 := e
    by_cases h : a = b
    · subst h
      rw [if_pos rfl] at e
      match x, y, hx, hy, e with
      | [], [], _, _, _ => rfl
      | [], d :: r, hx, hy, _ =>
        have hx : a = 67 := hx
        rcases hy.1 with h | h <;> omega
      | d :: r, [], hx, hy, _ =>
        have hy : a = 67 := hy
        rcases hx.1 with h | h <;> omega
      | d :: r, d' :: r', hx, hy, e =>
        rw [ord_zero hx.2 hy.2 (by by_cases q : a = 82 <;> simp [q] <;> omega) e]
    · rw [if_neg h] at e
      by_cases q : ix a > ix b
      · rw [if_pos q] at e; omega
      · rw [if_neg q] at e; omega
theorem Cd.tail {a : Nat} {x : List Nat} (h : Cd (a :: x)) : (x = [] ∧ a = 67) ∨ ((a = 76 ∨ a = 82) ∧ Cd x) := by
  match x, h with
  | [], h => exact .inl ⟨rfl, h⟩
  | d :: r, h => exact .inr h
theorem ord_trans : ∀ {x y z : List Nat} {s : Int}, Cd x → Cd y → Cd z → s = 1 ∨ s = -1 → ord s x y < 0 → ord s y z < 0 → ord s x z < 0
  | [], _, _, _, h, _, _, _, _, _ => h.elim
  | _ :: _, [], _, _, _, h, _, _, _, _ => h.elim
  | _ :: _, _ :: _, [], _, _, _, h, _, _, _ => h.elim
  | a :: x, b :: y, c :: z, s, hx, hy, hz, hs, h1, h2 => by
    have h1 : (if a = b then ord (if a = 82 then -s else s) x y else if ix a > ix b then s else -s) < 0 := h1
    have h2 : (if b = c then ord (if b = 82 then -s else s) y z else if ix b > ix c then s else -s) < 0 := h2
    show (if a = c then ord (if a = 82 then -s else s) x z else if ix a > ix c then s else -s) < 0
    have la := hx.lt3 a List.mem_cons_self
    have lb := hy.lt3 b List.mem_cons_self
    have lc := hz.lt3 c List.mem_cons_self
    by_cases hab : a = b
    · subst hab
      rw [if_pos rfl] at h1
      by_cases hac : a = c
      · subst hac
        rw [if_pos rfl] at h2 ⊢
        rcases hx.tail with ⟨rfl, ea⟩ | ⟨_, cx⟩
        · exact absurd h1 (by show ¬ ((0 : Int) < 0); omega)
        rcases hy.tail with ⟨rfl, ea⟩ | ⟨_, cy⟩
        · exact absurd h2 (by show ¬ ((0 : Int) < 0); omega)
        rcases hz.tail with ⟨rfl, ea⟩ | ⟨_, cz⟩
        · have : ord (if a = 82 then -s else s) y [] = 0 := by cases y <;> rfl
          rw [this] at h2; omega
        exact ord_trans cx cy cz (by by_cases q : a = 82 <;> simp [q] <;> omega) h1 h2
      · rw [if_neg hac] at h2 ⊢; exact h2
    · rw [if_neg hab] at h1
      by_cases hbc : b = c
      · subst hbc
        rw [if_neg hab]; exact h1
      · rw [if_neg hbc] at h2
        have n1 := ix_ne la lb hab
        have n2 := ix_ne lb lc hbc
        have hac : a ≠ c := by
          rintro rfl
          by_cases q1 : ix a > ix b
          · rw [if_pos q1] at h1; rw [if_neg (by omega)] at h2; omega
          · rw [if_neg q1] at h1; rw [if_pos (by omega)] at h2; omega
        rw [if_neg hac]
        by_cases q1 : ix a > ix b
        · rw [if_pos q1] at h1
          by_cases q2 : ix b > ix c
          · rw [if_pos (by omega)]; exact h1
          · rw [if_neg q2] at h2; omega
        · rw [if_neg q1] at h1
          by_cases q2 : ix b > ix c
          · rw [if_pos q2] at h2; omega
          · rw [if_neg q2] at h2; rw [if_neg (by omega)]; exact h1
theorem repr_ok {i : Int} (h : i = 1 ∨ i = 0 ∨ i = -1) {Q : Dv → Prop} (q : Q (.val (.str (PyData.int i).shown))) : wO (bRepr [.val (.int i)]) Q := by
  have e : bRepr [.val (.int i)] = some (.val (.str (PyData.int i).shown)) := by
    have key : ∀ i : Int, ((PyData.int i).showable = true ∧ (PyData.int i).hasDict = false ∧ (PyData.int i).depth ≤ 40 ∧ (PyData.int i).shown.length ≤ 16777216) → bRepr [.val (.int i)] = some (.val (.str (PyData.int i).shown)) := fun i h => if_pos h
    rcases h with rfl | rfl | rfl
    · exact key 1 (by decide +kernel)
    · exact key 0 (by decide +kernel)
    · exact key (-1) (by decide +kernel)
  rw [e]; exact q

set_option maxRecDepth 100000
set_option maxHeartbeats 8000000
open PySem PySem.Spec PyProof.Rows L2 DL
theorem order_ok {x y : List Nat} (hx : Lt3 x) (hy : Lt3 y) {π : Pn} {E} {Q : Dv → Pn → Prop} (q : Q (.val (.int (ord 1 x y))) π) : wR (m_order [.val (tx x), .val (tx y)] π) E Q := by
  unfold m_order b_order
  refine w_run ?_
  simp only [lit_LCR, lit_R]
  walk_at "dl wgo"
  refine w_izipS ?_
  walk_at "dl wgo"
  refine w_go (I := fun rest ρ π' => ∃ u v s e1 e2, rest = zipL (DL.signs (SX.S u)) (DL.signs (SX.S v)) ∧ ρ = [.val (.val (tx x)), .val (.val (tx y)), .val (.val (.int s)), e1, e2] ∧ π' = π ∧ Lt3 u ∧ Lt3 v ∧ ord s u v = ord 1 x y) ?_ ?_ ⟨x, y, 1, _, _, rfl, rfl, rfl, hx, hy, rfl⟩
  · rintro d r ρ π' ⟨u, v, s, e1, e2, hz, rfl, rfl, hu, hv, ho⟩
    match u, v, hz with
    | [], _, hz => cases hz
    | a :: u, [], hz => cases hz
    | a :: u, b :: v, hz =>
      rw [zip_cons] at hz
      cases hz
      have ha := hu a List.mem_cons_self
      have hb := hv b List.mem_cons_self
      have hu' : Lt3 u := fun c h => hu c (List.mem_cons_of_mem _ h)
      have hv' : Lt3 v := fun c h => hv c (List.mem_cons_of_mem _ h)
      refine g2_ok ?_
      walk_at "dl wgo"
      rw [sgn_eq]
      refine w_ite (fun hne => ?_) (fun hne => ?_)
      · have hne : a ≠ b := by simpa using hne
        walk_at "dl wgo"
        refine index_ok ha ?_
        walk_at "dl wgo"
        refine index_ok hb ?_
        walk_at "dl wgo"
        have e : ord s (a :: u) (b :: v) = if ix a > ix b then s else -s := by show (if a = b then _ else _) = _; rw [if_neg hne]
        rw [e] at ho
        refine w_ite (fun h => ?_) (fun h => ?_)
        · rw [if_pos (of_decide_eq_true h)] at ho
          walk_at "dl wgo"; rw [ho]; exact q
        · rw [if_neg (of_decide_eq_false h)] at ho
          walk_at "dl wgo"; rw [ho]; exact q
      · have hne : a = b := by simpa using hne
        have e : ord s (a :: u) (b :: v) = ord (if a = 82 then -s else s) u v := by show (if a = b then _ else _) = _; rw [if_pos hne]
        rw [e] at ho
        walk_at "dl wgo"
        rw [sgn_eq]
        refine w_ite (fun h => ?_) (fun h => ?_)
        · rw [if_pos (of_decide_eq_true h)] at ho
          walk_at "dl wgo"
          exact ⟨u, v, -s, _, _, rfl, rfl, rfl, hu', hv', ho⟩
        · rw [if_neg (of_decide_eq_false h)] at ho
          walk_at "dl wgo"
          exact ⟨u, v, s, _, _, rfl, rfl, rfl, hu', hv', ho⟩
  · rintro ρ π' ⟨u, v, s, e1, e2, hz, rfl, rfl, hu, hv, ho⟩
    have e : ord s u v = 0 := by
      match u, v, hz with
      | [], _, _ => rfl
      | a :: u, [], _ => rfl
      | a :: u, b :: v, hz => rw [zip_cons] at hz; cases hz
    rw [e] at ho
    walk_at "dl wgo"
    rw [ho]; exact q

set_option maxRecDepth 100000
set_option maxHeartbeats 8000000
open PySem PySem.Spec PyProof.Rows L2 DL
def IsC (x : List Nat) : Prop := ∃ w, LR w ∧ w.length ≤ 39 ∧ x = w ++ [67]
theorem IsC.lt3 {x : List Nat} (h : IsC x) : Lt3 x := by
  obtain ⟨w, hw, _, rfl⟩ := h
  intro c hc
  simp only [List.mem_append, List.mem_cons, List.not_mem_nil, or_false] at hc
  rcases hc with hc | rfl
  · rcases hw c hc with h | h
    · exact .inl h
    · exact .inr (.inr h)
  · exact .inr (.inl rfl)
theorem IsC.len {x : List Nat} (h : IsC x) : 1 ≤ x.length ∧ x.length ≤ 40 := by
  obtain ⟨w, _, hl, rfl⟩ := h
  simp; omega
theorem last_at {w : List Nat} {c : Nat} : atI (w ++ [c]) (-1) = some c := by
  unfold atI ixN
  rw [if_neg (by omega), if_pos (by simp; omega)]
  show (w ++ [c])[((-1 : Int) + ((w ++ [c]).length : Nat)).toNat]? = some c
  rw [show ((-1 : Int) + ((w ++ [c]).length : Nat)).toNat = w.length by simp; omega]
  simp
theorem IsC.cd {x : List Nat} (h : IsC x) : Cd x := by
  obtain ⟨w, hw, _, rfl⟩ := h
  exact Cd.of hw

set_option maxRecDepth 100000
set_option maxHeartbeats 8000000
open PySem PySem.Spec PyProof.Rows L2 DL
/-! ### products -/
def sw : Nat → Nat
  | 76 => 82
  | 82 => 76
  | c => c
/-- whether a word has an odd number of R -/
def od : List Nat → Bool
  | [] => false
  | a :: w => (a == 82) != od w
def sg (b : Bool) (s : Int) : Int := if b then -s else s
theorem ord_cons (s : Int) (a b : Nat) (x y : List Nat) : ord s (a :: x) (b :: y) = if a = b then ord (if a = 82 then -s else s) x y else if ix a > ix b then s else -s := rfl
theorem ord_app : ∀ (u : List Nat) (s : Int) (x y : List Nat), ord s (u ++ x) (u ++ y) = ord (sg (od u) s) x y
  | [], _, _, _ => rfl
  | a :: u, s, x, y => by
    rw [List.cons_append, List.cons_append, ord_cons, if_pos rfl, ord_app u]
    congr 1
    by_cases h : a = 82 <;> cases e : od u <;> simp [sg, od, h, e]
theorem ord_neg : ∀ (x y : List Nat) (s : Int), ord (-s) x y = - ord s x y
  | [], _, _ => by simp [ord]
  | _ :: _, [], _ => by simp [ord]
  | a :: x, b :: y, s => by
    rw [ord_cons, ord_cons]
    by_cases e : a = b
    · rw [if_pos e, if_pos e]
      by_cases h : a = 82
      · rw [if_pos h, if_pos h, ← ord_neg x y (-s)]
      · rw [if_neg h, if_neg h, ord_neg x y s]
    · rw [if_neg e, if_neg e]
      by_cases q : ix a > ix b
      · rw [if_pos q, if_pos q]
      · rw [if_neg q, if_neg q]
def fl (o : Bool) (c : Nat) : Nat := if o then sw c else c
/-- the product: w is the first code without its C, q the second one -/
def tms (w q : List Nat) : List Nat := (q.map fun c => w ++ [fl (od w) c]).flatten
theorem tms_cons (w : List Nat) (c : Nat) (q : List Nat) : tms w (c :: q) = w ++ (fl (od w) c :: tms w q) := by
  unfold tms
  rw [List.map_cons, List.flatten_cons, List.append_assoc]; rfl
theorem tms_nil (w : List Nat) : tms w [] = [] := rfl
theorem fl67 (o : Bool) : fl o 67 = 67 := by cases o <;> rfl
theorem fl3 {o : Bool} {c : Nat} (h : c = 76 ∨ c = 67 ∨ c = 82) : fl o c = 76 ∨ fl o c = 67 ∨ fl o c = 82 := by
  rcases h with rfl | rfl | rfl <;> cases o <;> decide
theorem fl2 {o : Bool} {c : Nat} (h : c = 76 ∨ c = 82) : fl o c = 76 ∨ fl o c = 82 := by
  rcases h with rfl | rfl <;> cases o <;> decide
theorem fl_inj {o : Bool} {a b : Nat} (ha : a = 76 ∨ a = 67 ∨ a = 82) (hb : b = 76 ∨ b = 67 ∨ b = 82) (h : fl o a = fl o b) : a = b := by
  rcases ha with rfl | rfl | rfl <;> rcases hb with rfl | rfl | rfl <;> cases o <;> first | rfl | (exact absurd h (by decide))
theorem tms_lt3 {w q : List Nat} (hw : LR w) (hq : Lt3 q) : Lt3 (tms w q) := by
  intro c hc
  unfold tms at hc
  rw [List.mem_flatten] at hc
  obtain ⟨l, hl, hc⟩ := hc
  rw [List.mem_map] at hl
  obtain ⟨b, hb, rfl⟩ := hl
  rcases List.mem_append.mp hc with h | h
  · rcases hw c h with h | h
    · exact .inl h
    · exact .inr (.inr h)
  · simp only [List.mem_cons, List.not_mem_nil, or_false] at h
    subst h; exact fl3 (hq b hb)
theorem ord_tms {w : List Nat} : ∀ {x y : List Nat} (s : Int), Cd x → Cd y → ord s (tms w x) (tms w y) = ord s x y
  | [], _, _, h, _ => h.elim
  | _ :: _, [], _, _, h => h.elim
  | a :: x, b :: y, s, hx, hy => by
    have la := hx.lt3 a List.mem_cons_self
    have lb := hy.lt3 b List.mem_cons_self
    rw [tms_cons, tms_cons, ord_app, ord_cons, ord_cons]
    by_cases e : a = b
    · subst e
      rw [if_pos rfl, if_pos rfl]
      rcases hx.tail with ⟨rfl, ea⟩ | ⟨ea, cx⟩
      · rcases hy.tail with ⟨rfl, _⟩ | ⟨eb, _⟩
        · rfl
        · omega
      · rcases hy.tail with ⟨rfl, eb⟩ | ⟨_, cy⟩
        · omega
        · rw [ord_tms _ cx cy]
          congr 1
          rcases ea with rfl | rfl <;> cases od w <;> simp [sg, fl, sw]
    · rw [if_neg e, if_neg fun h => e (fl_inj la lb h)]
      rcases la with rfl | rfl | rfl <;> rcases lb with rfl | rfl | rfl <;> first | exact absurd rfl e | (cases od w <;> simp [sg, fl, sw, ix])
theorem split_lt : ∀ (t w : List Nat), t.length < w.length → (∃ u a b t' w', t = u ++ a :: t' ∧ w = u ++ b :: w' ∧ a ≠ b) ∨ ∃ c w', w = t ++ c :: w'
  | [], [], h => absurd h (by simp)
  | [], c :: w, _ => .inr ⟨c, w, rfl⟩
  | a :: t, [], h => absurd h (by simp)
  | a :: t, b :: w, h => by
    by_cases e : a = b
    · subst e
      rcases split_lt t w (by simpa using h) with ⟨u, x, y, t', w', rfl, rfl, n⟩ | ⟨c, w', rfl⟩
      · exact .inl ⟨a :: u, x, y, t', w', rfl, rfl, n⟩
      · exact .inr ⟨c, w', rfl⟩
    · exact .inl ⟨[], a, b, t, w, rfl, rfl, e⟩
/-- no tail is greater -/
def Adm (x : List Nat) : Prop := ∀ i, i < x.length → ord 1 (x.drop i) x ≤ 0
theorem Cd.drop : ∀ {x : List Nat} {i : Nat}, Cd x → i < x.length → Cd (x.drop i)
  | [], _, h, _ => h.elim
  | x, 0, h, _ => by rw [List.drop_zero]; exact h
  | a :: x, i + 1, h, hi => by
    rw [List.drop_succ_cons]
    rcases h.tail with ⟨rfl, _⟩ | ⟨_, c⟩
    · simp at hi
    · exact Cd.drop c (by simpa using hi)
theorem Adm.lt {x : List Nat} (h : Adm x) (c : Cd x) {i : Nat} (h0 : 0 < i) (hi : i < x.length) : ord 1 (x.drop i) x < 0 := by
  have a := h i hi
  have : ord 1 (x.drop i) x ≠ 0 := fun e => by
    have q := congrArg List.length (ord_zero (c.drop hi) c (by decide) e)
    rw [List.length_drop] at q; omega
  omega
theorem inner {w : List Nat} (hw : LR w) (hA : Adm (w ++ [67])) : ∀ (n : Nat) (q a : List Nat), q.length + a.length ≤ n → Cd q → Cd a → ∀ r, 0 < r → r ≤ w.length → ord 1 ((tms w q).drop r) (tms w a) < 0
  | 0, [], _, _, h, _, _, _, _ => h.elim
  | 0, _ :: _, _, h, _, _, _, _, _ => absurd h (by simp)
  | n + 1, [], _, _, h, _, _, _, _ => h.elim
  | n + 1, _ :: _, [], _, _, h, _, _, _ => h.elim
  | n + 1, b :: q, a0 :: a, hn, hq, ha, r, r0, hr => by
    have base := hA.lt (Cd.of hw) r0 (show r < (w ++ [67]).length by simp; omega)
    rw [List.drop_append_of_le_length hr] at base
    have hb := hq.lt3 b List.mem_cons_self
    rw [tms_cons, List.drop_append_of_le_length hr, tms_cons]
    have lt : (w.drop r).length < w.length := by rw [List.length_drop]; omega
    have hwt : ∀ c ∈ w.drop r, c = 76 ∨ c = 82 := fun c h => hw c (List.mem_of_mem_drop h)
    rcases split_lt (w.drop r) w lt with ⟨u, x, y, t', w', e1, e2, ne⟩ | ⟨c, w', e⟩
    · generalize hY : fl (od w) a0 :: tms w a = Y
      generalize hX : fl (od w) b :: tms w q = X
      rw [e1] at base ⊢
      rw [e2] at base ⊢
      rw [List.append_assoc, List.append_assoc, ord_app, List.cons_append, List.cons_append, ord_cons, if_neg ne] at base
      rw [List.append_assoc, List.append_assoc, ord_app, List.cons_append, List.cons_append, ord_cons, if_neg ne]
      exact base
    · have hc : c = 76 ∨ c = 82 := hw c (by rw [e]; simp)
      have hf := fl3 (o := od w) hb
      generalize ht : w.drop r = t at *
      have e3 : ∀ Z : List Nat, w ++ Z = t ++ (c :: (w' ++ Z)) := fun Z => by
        conv => lhs; rw [e]
        simp [List.append_assoc]
      have e4 : w ++ [67] = t ++ (c :: (w' ++ [67])) := by
        conv => lhs; rw [e]
        simp
      rw [e4, ord_app, ord_cons, if_neg (by omega)] at base
      rw [e3 (fl (od w) a0 :: tms w a), ord_app, ord_cons]
      by_cases hfc : fl (od w) b = c
      · rw [if_pos hfc]
        have hb2 : Cd q := by
          rcases hq.tail with ⟨_, rfl⟩ | ⟨_, h⟩
          · rw [fl67] at hfc; omega
          · exact h
        have s1 : (if fl (od w) b = 82 then -(sg (od t) 1) else sg (od t) 1) = -1 := by
          rw [hfc]
          rcases hc with rfl | rfl <;> cases ho : od t <;> rw [ho] at base <;> revert base <;> decide
        rw [s1, ord_neg]
        have e5 : w' ++ fl (od w) a0 :: tms w a = (tms w (a0 :: a)).drop (t.length + 1) := by
          have e6 : ∀ Z : List Nat, t ++ c :: Z = (t ++ [c]) ++ Z := fun Z => by simp
          rw [tms_cons, e3, e6, List.drop_left' (by simp)]
        have l5 : t.length + 1 ≤ w.length := by omega
        have ih := inner hw hA n (a0 :: a) q (by simp at hn ⊢; omega) ha hb2 (t.length + 1) (by omega) l5
        rw [e5, ← ord_anti (tms_lt3 hw hb2.lt3) (fun y hy => tms_lt3 hw ha.lt3 y (List.mem_of_mem_drop hy))]
        exact ih
      · rw [if_neg hfc]
        rcases hc with rfl | rfl <;> rcases hf with h | h | h <;> rw [h] at hfc ⊢ <;> cases ho : od t <;> rw [ho] at base <;> revert base hfc <;> decide
theorem tms_length (w q : List Nat) : (tms w q).length = (w.length + 1) * q.length := by
  induction q with
  | nil => rfl
  | cons c q ih => rw [tms_cons, List.length_append, List.length_cons, ih, List.length_cons, Nat.mul_succ]; omega
theorem tms_drop (w : List Nat) : ∀ (q : List Nat) (i : Nat), i < (tms w q).length → ∃ j r, j < q.length ∧ r ≤ w.length ∧ (tms w q).drop i = (tms w (q.drop j)).drop r
  | [], i, h => absurd h (by simp [tms])
  | c :: q, i, h => by
    by_cases hi : i ≤ w.length
    · exact ⟨0, i, by simp, hi, rfl⟩
    · rw [tms_length, List.length_cons, Nat.mul_succ] at h
      obtain ⟨j, r, hj, hr, e⟩ := tms_drop w q (i - (w.length + 1)) (by rw [tms_length]; omega)
      refine ⟨j + 1, r, by simp; omega, hr, ?_⟩
      rw [List.drop_succ_cons, ← e, tms_cons]
      have e6 : ∀ (d : Nat) (Z : List Nat), w ++ d :: Z = (w ++ [d]) ++ Z := fun d Z => by simp
      have e7 : i = (w.length + 1) + (i - (w.length + 1)) := by omega
      rw [e6]
      conv => lhs; rw [e7]
      rw [← List.drop_drop, List.drop_left' (by simp)]
theorem tms_cd {w : List Nat} (hw : LR w) : ∀ {q : List Nat}, Cd q → Cd (tms w q)
  | [], h => h.elim
  | c :: q, h => by
    rw [tms_cons]
    rcases h.tail with ⟨rfl, rfl⟩ | ⟨hc, h⟩
    · rw [fl67]; exact Cd.of hw
    · have ih := tms_cd hw h
      have hx : ∀ {u x : List Nat}, LR u → Cd x → Cd (u ++ x) := by
        intro u
        induction u with
        | nil => intro x _ h; exact h
        | cons a u ihu =>
          intro x hu hx
          have := ihu (fun c h => hu c (List.mem_cons_of_mem _ h)) hx
          show Cd (a :: (u ++ x))
          match u ++ x, this with
          | d :: r, hd => exact ⟨hu a List.mem_cons_self, hd⟩
      refine hx hw ?_
      match tms w q, ih with
      | d :: r, hd => exact ⟨fl2 hc, hd⟩
theorem adm_tms {w q : List Nat} (hw : LR w) (hA : Adm (w ++ [67])) (hq : Cd q) (hB : Adm q) : Adm (tms w q) := by
  intro i hi
  obtain ⟨j, r, hj, hr, e⟩ := tms_drop w q i hi
  rw [e]
  have cj := hq.drop hj
  by_cases h : r = 0
  · subst h
    rw [List.drop_zero, ord_tms 1 cj hq]; exact hB j hj
  · have := inner hw hA _ (q.drop j) q (Nat.le_refl _) cj hq r (by omega) hr
    omega
theorem IsC.of_cd : ∀ {x : List Nat}, Cd x → x.length ≤ 40 → IsC x := by
  have key : ∀ {x : List Nat}, Cd x → ∃ w, LR w ∧ x = w ++ [67] := by
    intro x
    induction x with
    | nil => intro h; exact h.elim
    | cons a x ih =>
      intro h
      rcases h.tail with ⟨rfl, rfl⟩ | ⟨ha, h⟩
      · exact ⟨[], fun _ h => absurd h List.not_mem_nil, rfl⟩
      · obtain ⟨w, hw, rfl⟩ := ih h
        refine ⟨a :: w, fun c hc => ?_, rfl⟩
        rcases List.mem_cons.mp hc with rfl | hc
        · exact ha
        · exact hw c hc
  intro x h l
  obtain ⟨w, hw, rfl⟩ := key h
  exact ⟨w, hw, by simp at l; omega, rfl⟩

set_option maxRecDepth 100000
set_option maxHeartbeats 8000000
open PySem PySem.Spec PyProof.Rows L2 DL
/-! ### words -/
theorem rep_ok {x : List Nat} {n : Int} {Q : Dv → Prop} (h0 : 0 ≤ n) (h1 : n ≤ 1000) (l : x.length ≤ 1000) (q : Q (.val (tx (List.replicate n.toNat x).flatten))) : wO (dMul (.val (tx x)) (.val (.int n))) Q := by
  show wO (if _ then _ else _) Q
  rw [if_pos (by
    refine ⟨by omega, by omega, ?_⟩
    rw [SX.S_len]
    exact Nat.le_trans (Nat.mul_le_mul l (show n.toNat ≤ 1000 by omega)) (by decide))]
  exact q
theorem flat_rep (c k : Nat) : (List.replicate k [c]).flatten = List.replicate k c := by
  induction k with
  | zero => rfl
  | succ k ih => rw [List.replicate_succ, List.flatten_cons, ih]; rfl
theorem lit_RL : Str.ofString "RL" = SX.S [82, 76] := by decide +kernel
theorem LR.app {x y : List Nat} (hx : LR x) (hy : LR y) : LR (x ++ y) := fun c h => by
  rcases List.mem_append.mp h with h | h
  · exact hx c h
  · exact hy c h
theorem LR.rep {c k : Nat} (h : c = 76 ∨ c = 82) : LR (List.replicate k c) := fun d hd => by rw [List.eq_of_mem_replicate hd]; exact h
theorem LR.one {c : Nat} (h : c = 76 ∨ c = 82) : LR [c] := fun d hd => by simp at hd; subst hd; exact h
theorem Cd.snoc {x : List Nat} (h : Cd x) : ∃ w, LR w ∧ x = w ++ [67] := by
  induction x with
  | nil => exact h.elim
  | cons a x ih =>
    rcases h.tail with ⟨rfl, rfl⟩ | ⟨ha, h⟩
    · exact ⟨[], fun _ h => absurd h List.not_mem_nil, rfl⟩
    · obtain ⟨w, hw, rfl⟩ := ih h
      exact ⟨a :: w, LR.app (x := [a]) (LR.one ha) hw, rfl⟩
theorem cnt_od : ∀ w : List Nat, (PyProof.Rows.cnt 82 w % 2 = 1) ↔ od w = true
  | [] => by simp [PyProof.Rows.cnt_nil, od]
  | a :: w => by
    have ih := cnt_od w
    rw [PyProof.Rows.cnt_cons]
    by_cases h : a = 82
    · rw [if_pos h]
      cases e : od w with
      | true => rw [e] at ih; simp [od, h, e]; have := ih.mpr rfl; omega
      | false => rw [e] at ih; simp [od, h, e]; have : ¬ PyProof.Rows.cnt 82 w % 2 = 1 := fun q => by have := ih.mp q; cases this
                 omega
    · rw [if_neg h, Int.zero_add, ih]
      have : (a == 82) = false := by simpa using h
      simp [od, this]
theorem cnt_od2 (w : List Nat) : (PyProof.Rows.cnt 82 w % 2 == 1) = od w := by
  have := cnt_od w
  cases e : od w with
  | true => rw [e] at this; simpa using this.mpr rfl
  | false => rw [e] at this; simpa using fun q => by have := this.mp q; cases this

set_option maxRecDepth 100000
set_option maxHeartbeats 8000000
open PySem PySem.Spec PyProof.Rows L2 DL
theorem rng_nat (j : Nat) : rngL 0 1 j = (List.range j).map fun i => PyData.int (i : Nat) := by
  unfold rngL
  refine List.map_congr_left fun i _ => ?_
  congr 1; omega

set_option maxRecDepth 100000
set_option maxHeartbeats 8000000
open PySem PySem.Spec PyProof.Rows L2 DL
/-! ### tails -/
def tls (x : List Nat) : List (List Nat) := (List.range x.length).map fun i => x.drop i
theorem atI_zero {α : Type} (a : α) (r : List α) : atI (a :: r) 0 = some a := by
  unfold atI ixN
  rw [if_pos (by omega), if_pos (by simp)]; rfl
theorem adm_greatest {x g : List Nat} (hx : Cd x) (hg : g ∈ tls x) (h : ∀ y ∈ tls x, ord 1 y g ≤ 0) : Cd g ∧ Adm g ∧ g.length ≤ x.length := by
  unfold tls at hg h
  obtain ⟨i, hi, rfl⟩ := List.mem_map.mp hg
  rw [List.mem_range] at hi
  refine ⟨hx.drop hi, fun k hk => ?_, by rw [List.length_drop]; omega⟩
  rw [List.length_drop] at hk
  rw [List.drop_drop]
  exact h _ (List.mem_map.mpr ⟨i + k, by rw [List.mem_range]; omega, rfl⟩)
theorem tls_cd {x : List Nat} (hx : Cd x) (hl : x.length ≤ 1000) : ∀ y ∈ tls x, Cd y ∧ y.length ≤ 1000 := by
  intro y hy
  unfold tls at hy
  obtain ⟨i, hi, rfl⟩ := List.mem_map.mp hy
  rw [List.mem_range] at hi
  exact ⟨hx.drop hi, by rw [List.length_drop]; omega⟩

set_option maxRecDepth 100000
set_option maxHeartbeats 8000000
open PySem PySem.Spec PyProof.Rows L2 DL
theorem same_len : ∀ {u v : List Nat}, u.length = v.length → u ≠ v → ∀ (X Y X' Y' : List Nat) (s : Int), ord s (u ++ X) (v ++ Y) = ord s (u ++ X') (v ++ Y')
  | [], [], _, h, _, _, _, _, _ => absurd rfl h
  | [], _ :: _, h, _, _, _, _, _, _ => by simp at h
  | _ :: _, [], h, _, _, _, _, _, _ => by simp at h
  | a :: u, b :: v, h, n, X, Y, X', Y', s => by
    rw [List.cons_append, List.cons_append, List.cons_append, List.cons_append, ord_cons, ord_cons]
    by_cases e : a = b
    · subst e
      rw [if_pos rfl, if_pos rfl]
      exact same_len (by simpa using h) (fun z => n (by rw [z])) X Y X' Y' _
    · rw [if_neg e, if_neg e]

set_option maxRecDepth 100000
set_option maxHeartbeats 8000000
open PySem PySem.Spec PyProof.Rows L2 DL
/-! ### words that are turned -/
def pw (z : List Nat) (k : Nat) : List Nat := (List.replicate k z).flatten
theorem pw_add (z : List Nat) (a b : Nat) : pw z (a + b) = pw z a ++ pw z b := by
  unfold pw; rw [← List.replicate_append_replicate, List.flatten_append]
theorem pw_len (z : List Nat) (k : Nat) : (pw z k).length = k * z.length := by
  unfold pw; rw [List.length_flatten, List.map_replicate, List.sum_replicate_nat]
theorem pw_one (z : List Nat) : pw z 1 = z := by unfold pw; simp
theorem pw_mul (z : List Nat) (a : Nat) : ∀ b, pw (pw z a) b = pw z (a * b)
  | 0 => by unfold pw; simp
  | b + 1 => by rw [pw_add, pw_one, pw_mul z a b, Nat.mul_succ, pw_add]
theorem commute : ∀ (n : Nat) (x y : List Nat), x.length + y.length ≤ n → x ++ y = y ++ x → ∃ z a b, x = pw z a ∧ y = pw z b
  | 0, x, y, h, _ => by
    have hx : x = [] := List.length_eq_zero_iff.mp (by omega)
    have hy : y = [] := List.length_eq_zero_iff.mp (by omega)
    subst hx hy
    exact ⟨[], 0, 0, rfl, rfl⟩
  | n + 1, x, y, h, e => by
    by_cases hx : x = []
    · subst hx; exact ⟨y, 0, 1, rfl, (pw_one y).symm⟩
    by_cases hy : y = []
    · subst hy; exact ⟨x, 1, 0, (pw_one x).symm, rfl⟩
    have lx : 0 < x.length := List.length_pos_iff.mpr hx
    have ly : 0 < y.length := List.length_pos_iff.mpr hy
    rcases List.append_eq_append_iff.mp e with ⟨a', e1, e2⟩ | ⟨c', e1, e2⟩
    · have l1 := congrArg List.length e1
      rw [List.length_append] at l1
      obtain ⟨z, p, q, h1, h2⟩ := commute n x a' (by omega) (by rw [← e1, ← e2])
      exact ⟨z, p, p + q, h1, by rw [pw_add, ← h1, ← h2]; exact e1⟩
    · have l1 := congrArg List.length e1
      rw [List.length_append] at l1
      obtain ⟨z, p, q, h1, h2⟩ := commute n y c' (by omega) (by rw [← e1, ← e2])
      exact ⟨z, p + q, p, by rw [pw_add, ← h1, ← h2]; exact e1, h1⟩
def rot (i : Nat) (x : List Nat) : List Nat := x.drop i ++ x.take i
theorem rot_len (i : Nat) (x : List Nat) : (rot i x).length = x.length := by unfold rot; simp; omega
theorem rot_get {i : Nat} {x : List Nat} (hi : i ≤ x.length) {j : Nat} (hj : j < x.length) : (rot i x)[j]? = x[(i + j) % x.length]? := by
  unfold rot
  by_cases h : j < x.length - i
  · rw [List.getElem?_append_left (by rw [List.length_drop]; exact h), List.getElem?_drop, Nat.mod_eq_of_lt (by omega)]
  · rw [List.getElem?_append_right (by rw [List.length_drop]; omega), List.length_drop, List.getElem?_take, if_pos (by omega)]
    rw [show i + j = (j - (x.length - i)) + x.length by omega, Nat.add_mod_right, Nat.mod_eq_of_lt (by omega)]
/-- no turn but the whole one gives the word again -/
structure Prim (r : List Nat) : Prop where
  ne : r ≠ []
  lr : LR r
  no : ∀ i, 0 < i → i < r.length → rot i r ≠ r
theorem Prim.turn {r : List Nat} (h : Prim r) {k : Nat} (hk : k < r.length) : Prim (rot k r) := by
  refine ⟨fun z => h.ne (List.length_eq_zero_iff.mp (by rw [← rot_len k r, z]; rfl)), fun c hc => ?_, fun i h0 hi e => ?_⟩
  · unfold rot at hc
    rcases List.mem_append.mp hc with hc | hc
    · exact h.lr c (List.mem_of_mem_drop hc)
    · exact h.lr c (List.mem_of_mem_take hc)
  · rw [rot_len] at hi
    refine h.no i h0 hi (List.ext_getElem? fun j => ?_)
    by_cases hj : j < r.length
    · -- j = (k + l) mod n
      have hl : (j + (r.length - k)) % r.length < r.length := Nat.mod_lt _ (by omega)
      have e1 : (rot i (rot k r))[(j + (r.length - k)) % r.length]? = (rot k r)[(j + (r.length - k)) % r.length]? := congrArg (fun x : List Nat => x[(j + (r.length - k)) % r.length]?) e
      rw [rot_get (by rw [rot_len]; omega) (by rw [rot_len]; exact hl), rot_len, rot_get (by omega) (Nat.mod_lt _ (by omega)), rot_get (by omega) hl] at e1
      rw [rot_get (by omega) hj]
      have m1 : (k + (i + (j + (r.length - k)) % r.length) % r.length) % r.length = (i + j) % r.length := by
        rw [Nat.add_mod_mod, ← Nat.add_assoc, Nat.add_mod_mod, show k + i + (j + (r.length - k)) = (i + j) + r.length by omega, Nat.add_mod_right]
      have m2 : (k + (j + (r.length - k)) % r.length) % r.length = j := by
        rw [Nat.add_mod_mod, show k + (j + (r.length - k)) = j + r.length by omega, Nat.add_mod_right, Nat.mod_eq_of_lt hj]
      rw [m1, m2] at e1
      exact e1
    · rw [List.getElem?_eq_none (by rw [rot_len]; omega), List.getElem?_eq_none (by omega)]
/-- the root of a word -/
theorem prim_of_least {w : List Nat} (hw : LR w) {n : Nat} (h1 : 1 ≤ n) (hn : n ≤ w.length) (e : w = pw (w.take n) (w.length / n)) (least : ∀ m, 1 ≤ m → m < n → w ≠ pw (w.take m) (w.length / m)) : Prim (w.take n) := by
  have lt : (w.take n).length = n := by rw [List.length_take]; omega
  refine ⟨fun z => by rw [z] at lt; simp at lt; omega, fun c hc => hw c (List.mem_of_mem_take hc), fun i h0 hi er => ?_⟩
  rw [lt] at hi
  have ec : (w.take n).take i ++ (w.take n).drop i = (w.take n).drop i ++ (w.take n).take i := by
    rw [List.take_append_drop]; exact er.symm
  obtain ⟨z, a, b, ha, hb⟩ := commute _ _ _ (Nat.le_refl _) ec
  have er2 : w.take n = pw z (a + b) := by rw [pw_add, ← ha, ← hb, List.take_append_drop]
  have la := congrArg List.length ha
  have lb := congrArg List.length hb
  rw [pw_len, List.length_take, lt] at la
  rw [pw_len, List.length_drop, lt] at lb
  have lz : 0 < z.length := by
    cases z with
    | nil => simp at la; omega
    | cons c z => simp
  have a1 : 1 ≤ a := by cases a with | zero => simp at la; omega | succ a => omega
  have b1 : 1 ≤ b := by cases b with | zero => simp at lb; omega | succ b => omega
  have ln : n = (a + b) * z.length := by rw [← lt, er2, pw_len]
  have hz : z.length < n := by
    rw [ln]
    have := Nat.mul_le_mul (show 2 ≤ a + b by omega) (Nat.le_refl z.length)
    omega
  have ew : w = pw z ((a + b) * (w.length / n)) := by rw [← pw_mul, ← er2]; exact e
  have lw := congrArg List.length ew
  rw [pw_len] at lw
  refine least z.length lz hz ?_
  have hd : w.length / z.length = (a + b) * (w.length / n) := by
    conv => lhs; rw [lw]
    exact Nat.mul_div_cancel _ lz
  have ht : w.take z.length = z := by
    have k1 : 1 ≤ (a + b) * (w.length / n) := Nat.mul_pos (by omega) (Nat.div_pos hn (by omega))
    obtain ⟨k, hk⟩ : ∃ k, (a + b) * (w.length / n) = 1 + k := ⟨(a + b) * (w.length / n) - 1, by omega⟩
    rw [ew, hk, pw_add, pw_one, List.take_left' rfl]
  rw [ht, hd]
  exact ew
/-! ### words of one length -/
theorem ord_C {x y : List Nat} (hl : x.length = y.length) (s : Int) : ord s (x ++ [67]) (y ++ [67]) = ord s x y := by
  induction x generalizing y s with
  | nil =>
    cases y with
    | nil => show ord s [67] [67] = 0; rw [ord_self]
    | cons b y => simp at hl
  | cons a x ih =>
    cases y with
    | nil => simp at hl
    | cons b y =>
      simp only [List.length_cons, Nat.add_right_cancel_iff] at hl
      rw [List.cons_append, List.cons_append, ord_cons, ord_cons]
      by_cases e : a = b
      · rw [if_pos e, if_pos e, ih hl]
      · rw [if_neg e, if_neg e]
theorem ordw_trans {x y z : List Nat} (hx : LR x) (hy : LR y) (hz : LR z) (l1 : x.length = y.length) (l2 : y.length = z.length) (h1 : ord 1 x y < 0) (h2 : ord 1 y z < 0) : ord 1 x z < 0 := by
  rw [← ord_C l1] at h1
  rw [← ord_C l2] at h2
  rw [← ord_C (l1.trans l2)]
  exact ord_trans (Cd.of hx) (Cd.of hy) (Cd.of hz) (.inl rfl) h1 h2
theorem ordw_zero {x y : List Nat} (hx : LR x) (hy : LR y) (l1 : x.length = y.length) {s : Int} (hs : s ≠ 0) (h : ord s x y = 0) : x = y := by
  rw [← ord_C l1] at h
  exact List.append_cancel_right (ord_zero (Cd.of hx) (Cd.of hy) hs h)
theorem LR.lt3 {x : List Nat} (h : LR x) : Lt3 x := fun c hc => (h c hc).elim .inl fun h => .inr (.inr h)

set_option maxRecDepth 100000
set_option maxHeartbeats 8000000
open PySem PySem.Spec PyProof.Rows L2 DL
/-! ### the greatest turn -/
theorem od_snoc : ∀ (u : List Nat) (c : Nat), od (u ++ [c]) = (od u != (c == 82))
  | [], c => by simp [od]
  | a :: u, c => by
    rw [List.cons_append]
    simp only [od, od_snoc u c]
    cases od u <;> cases (c == 82) <;> cases (a == 82) <;> rfl
theorem rot_rot {x : List Nat} {i j : Nat} (hi : i < x.length) (hj : j < x.length) : rot i (rot j x) = rot ((j + i) % x.length) x := by
  have hm : (j + i) % x.length < x.length := Nat.mod_lt _ (by omega)
  refine List.ext_getElem? fun k => ?_
  by_cases hk : k < x.length
  · rw [rot_get (by rw [rot_len]; omega) (by rw [rot_len]; exact hk), rot_len, rot_get (by omega) (Nat.mod_lt _ (by omega)), rot_get (by omega) hk]
    congr 1
    rw [Nat.add_mod_mod, Nat.mod_add_mod, Nat.add_assoc]
  · rw [List.getElem?_eq_none (by rw [rot_len, rot_len]; omega), List.getElem?_eq_none (by rw [rot_len]; omega)]
theorem turn_adm {g : List Nat} (hp : Prim g) (hm : ∀ i, i < g.length → ord 1 (rot i g ++ rot i g) (g ++ g) ≤ 0) : Adm (g.dropLast ++ [67]) := by
  have e := List.dropLast_concat_getLast hp.ne
  generalize g.dropLast = p at *
  generalize hc : g.getLast hp.ne = c at *
  have c2 : c = 76 ∨ c = 82 := hp.lr c (by rw [← e]; simp)
  have lg : g.length = p.length + 1 := by rw [← e]; simp
  intro i hi
  rw [List.length_append] at hi
  simp only [List.length_cons, List.length_nil] at hi
  by_cases i0 : i = 0
  · subst i0; rw [List.drop_zero, ord_self]; decide
  have ip : i ≤ p.length := by omega
  have hmi := hm i (by omega)
  have e1 : (p ++ [67]).drop i = p.drop i ++ [67] := by rw [List.drop_append_of_le_length ip]
  have e2 : g.drop i = p.drop i ++ [c] := by rw [← e, List.drop_append_of_le_length ip]
  obtain ⟨m, hmm⟩ : ∃ m, m = p.length - i := ⟨_, rfl⟩
  have hml : m < p.length := by omega
  have e3 : p = p.take m ++ (p[m] :: p.drop (m + 1)) := by
    rw [← List.drop_eq_getElem_cons hml, List.take_append_drop]
  have lu : (p.drop i).length = (p.take m).length := by rw [List.length_drop, List.length_take]; omega
  have ex : p ++ [67] = p.take m ++ (p[m] :: (p.drop (m + 1) ++ [67])) := by
    have h := congrArg (fun l : List Nat => l ++ [67]) e3
    exact h.trans (by show (p.take m ++ p[m] :: p.drop (m + 1)) ++ [67] = _; rw [List.append_assoc, List.cons_append])
  have eg : g ++ g = p.take m ++ (p[m] :: (p.drop (m + 1) ++ ([c] ++ g))) := by
    have h := congrArg (fun l : List Nat => l ++ ([c] ++ g)) e3
    have h2 : g ++ g = p ++ ([c] ++ g) := by
      have h3 := congrArg (fun l : List Nat => l ++ g) e
      exact h3.symm.trans (List.append_assoc p [c] g)
    exact h2.trans (h.trans (by show (p.take m ++ p[m] :: p.drop (m + 1)) ++ ([c] ++ g) = _; rw [List.append_assoc, List.cons_append]))
  have er : rot i g ++ rot i g = p.drop i ++ (c :: (g.take i ++ rot i g)) := by
    conv => lhs; lhs; unfold rot; rw [e2]
    simp
  have b2 : p[m] = 76 ∨ p[m] = 82 := hp.lr _ (by rw [← e]; exact List.mem_append_left _ (List.getElem_mem hml))
  rw [er, eg] at hmi
  rw [e1, ex]
  by_cases huv : p.drop i = p.take m
  · rw [huv] at hmi ⊢
    rw [ord_app] at hmi ⊢
    rw [ord_cons] at hmi ⊢
    have sg1 : sg (od (p.take m)) 1 = 1 ∨ sg (od (p.take m)) 1 = -1 := by unfold sg; split <;> simp
    rw [if_neg (show ¬ (67 = p[m]) by omega)]
    by_cases hcb : c = p[m]
    · -- the border
      by_cases ho : od (p.take m ++ [c]) = true
      · rw [od_snoc] at ho
        rcases b2 with b2 | b2
        · rw [b2] at hcb ⊢
          have o1 : od (p.take m) = true := by rw [hcb] at ho; simpa using ho
          rw [o1]; decide
        · rw [b2] at hcb ⊢
          have o1 : od (p.take m) = false := by rw [hcb] at ho; simpa using ho
          rw [o1]; decide
      · exfalso
        have ho : od (p.take m ++ [c]) = false := by simpa using ho
        have t1 : g.drop i = p.take m ++ [c] := by rw [e2, huv]
        have t2 : g.take (m + 1) = p.take m ++ [c] := by
          rw [← e, List.take_append_of_le_length (by omega), hcb, List.take_succ_eq_append_getElem hml]
        have k1 : g = g.take i ++ (p.take m ++ [c]) := by rw [← t1, List.take_append_drop]
        have k2 : g = (p.take m ++ [c]) ++ g.drop (m + 1) := by rw [← t2, List.take_append_drop]
        have l1 : (g.take i).length = (g.drop (m + 1)).length := by rw [List.length_take, List.length_drop]; omega
        by_cases hy : g.take i = g.drop (m + 1)
        · refine hp.no i (by omega) (by omega) ?_
          show g.drop i ++ g.take i = g
          rw [t1, hy]; exact k2.symm
        · have a1 := hm i (by omega)
          have a2 := hm (m + 1) (by omega)
          have r1 : rot i g ++ rot i g = (p.take m ++ [c]) ++ (g.take i ++ rot i g) := by
            conv => lhs; lhs; unfold rot; rw [t1]
            simp
          have r2 : g ++ g = (p.take m ++ [c]) ++ (g.drop (m + 1) ++ g) := by
            conv => lhs; lhs; rw [k2]
            simp
          rw [r1, r2, ord_app, ho] at a1
          have r3 : rot (m + 1) g ++ rot (m + 1) g = g.drop (m + 1) ++ ((p.take m ++ [c]) ++ rot (m + 1) g) := by
            conv => lhs; lhs; unfold rot; rw [t2]
            simp
          have r4 : g ++ g = g.take i ++ ((p.take m ++ [c]) ++ g) := by
            conv => lhs; lhs; rw [k1]
            simp
          rw [r3, r4, same_len l1.symm (fun z => hy z.symm) _ _ [] []] at a2
          have a1 : ord 1 (g.take i ++ rot i g) (g.drop (m + 1) ++ g) ≤ 0 := a1
          rw [same_len l1 hy _ _ [] []] at a1
          rw [List.append_nil, List.append_nil] at a1 a2
          have q1 : LR (g.take i) := fun c h => hp.lr c (List.mem_of_mem_take h)
          have q2 : LR (g.drop (m + 1)) := fun c h => hp.lr c (List.mem_of_mem_drop h)
          have a3 := ord_anti (s := 1) q1.lt3 q2.lt3
          exact hy (ordw_zero q1 q2 l1 (s := 1) (by decide) (by omega))
    · rw [if_neg hcb] at hmi
      rcases b2 with b2 | b2 <;> rcases c2 with c2 | c2 <;> rw [b2, c2] at hmi hcb <;> rw [b2]
      · exact absurd rfl hcb
      · rw [if_pos (by decide)] at hmi ⊢; exact hmi
      · rw [if_neg (by decide)] at hmi ⊢; exact hmi
      · exact absurd rfl hcb
  · rw [same_len lu huv _ _ (c :: (g.take i ++ rot i g)) (p[m] :: (p.drop (m + 1) ++ ([c] ++ g)))]
    exact hmi

set_option maxRecDepth 100000
set_option maxHeartbeats 8000000
open PySem PySem.Spec PyProof.Rows L2 DL
/-! ### the law's own order of codes -/
def sgf (f : Nat) : Int := if f % 2 = 0 then 1 else -1
theorem sgf_succ (f : Nat) : sgf (f + 1) = - sgf f := by
  unfold sgf
  by_cases h : f % 2 = 0
  · rw [if_pos h, if_neg (by omega)]
  · rw [if_neg h, if_pos (by omega)]; rfl
theorem lcomp_ok {x y : List Nat} (hx : Lt3 x) (hy : Lt3 y) {π : Pn} {E} {Q : Dv → Pn → Prop} (q : Q (.val (.int (ord 1 x y))) π) : wR (m_law_compare [.val (tx x), .val (tx y)] π) E Q := by
  unfold m_law_compare b_law_compare
  refine w_run ?_
  simp only [lit_LCR, lit_R]
  walk_at "dl wgo"
  refine w_izipS ?_
  walk_at "dl wgo"
  refine w_go (I := fun rest ρ π' => ∃ u v f e1 e2 e3, rest = zipL (DL.signs (SX.S u)) (DL.signs (SX.S v)) ∧ ρ = [.val (.val (tx x)), .val (.val (tx y)), .val (.val (.int (f : Nat))), e1, e2, e3] ∧ π' = π ∧ Lt3 u ∧ Lt3 v ∧ ord (sgf f) u v = ord 1 x y) ?_ ?_ ⟨x, y, 0, _, _, _, rfl, rfl, rfl, hx, hy, rfl⟩
  · rintro d r ρ π' ⟨u, v, f, e1, e2, e3, hz, rfl, rfl, hu, hv, ho⟩
    match u, v, hz with
    | [], _, hz => cases hz
    | a :: u, [], hz => cases hz
    | a :: u, b :: v, hz =>
      rw [zip_cons] at hz
      cases hz
      have ha := hu a List.mem_cons_self
      have hb := hv b List.mem_cons_self
      have hu' : Lt3 u := fun c h => hu c (List.mem_cons_of_mem _ h)
      have hv' : Lt3 v := fun c h => hv c (List.mem_cons_of_mem _ h)
      refine g2_ok ?_
      walk_at "dl wgo"
      rw [sgn_eq]
      refine w_ite (fun hne => ?_) (fun hne => ?_)
      · have hne : a ≠ b := by simpa using hne
        have hi := ix_ne ha hb hne
        walk_at "dl wgo"
        refine index_ok ha ?_
        walk_at "dl wgo"
        refine index_ok hb ?_
        walk_at "dl wgo"
        have e : ord (sgf f) (a :: u) (b :: v) = if ix a > ix b then sgf f else -(sgf f) := by show (if a = b then _ else _) = _; rw [if_neg hne]
        rw [e] at ho
        have ef : ((f : Int) % 2 == 0) = decide (f % 2 = 0) := by rw [Bool.eq_iff_iff]; simp; omega
        rw [ef]
        unfold sgf at ho
        by_cases hf : f % 2 = 0 <;> by_cases hl : ix a < ix b
        · rw [decide_eq_true hf, decide_eq_true hl]
          rw [if_pos hf, if_neg (by omega)] at ho
          rw [← ho] at q
          refine w_iteOT rfl ?_
          walk_at "dl wgo"
          exact q
        · rw [decide_eq_true hf, decide_eq_false hl]
          rw [if_pos hf, if_pos (by omega)] at ho
          rw [← ho] at q
          refine w_iteOF rfl ?_
          walk_at "dl wgo"
          exact q
        · rw [decide_eq_false hf, decide_eq_true hl]
          rw [if_neg hf, if_neg (by omega)] at ho
          rw [← ho] at q
          refine w_iteOF rfl ?_
          walk_at "dl wgo"
          exact q
        · rw [decide_eq_false hf, decide_eq_false hl]
          rw [if_neg hf, if_pos (by omega)] at ho
          rw [← ho] at q
          refine w_iteOT rfl ?_
          walk_at "dl wgo"
          exact q
      · have hne : a = b := by simpa using hne
        have e : ord (sgf f) (a :: u) (b :: v) = ord (if a = 82 then -sgf f else sgf f) u v := by show (if a = b then _ else _) = _; rw [if_pos hne]
        rw [e] at ho
        walk_at "dl wgo"
        rw [sgn_eq]
        by_cases h : a = 82
        · rw [decide_eq_true h]
          rw [if_pos h, ← sgf_succ] at ho
          walk_at "dl wgo"
          exact ⟨u, v, f + 1, _, _, _, rfl, rfl, rfl, hu', hv', ho⟩
        · rw [decide_eq_false h]
          rw [if_neg h] at ho
          walk_at "dl wgo"
          rw [show (f : Int) + (if false = true then 1 else 0) = (f : Nat) by simp]
          exact ⟨u, v, f, _, _, _, rfl, rfl, rfl, hu', hv', ho⟩
  · rintro ρ π' ⟨u, v, f, e1, e2, e3, hz, rfl, rfl, hu, hv, ho⟩
    have e : ord (sgf f) u v = 0 := by
      match u, v, hz with
      | [], _, _ => rfl
      | a :: u, [], _ => rfl
      | a :: u, b :: v, hz => rw [zip_cons] at hz; cases hz
    rw [e] at ho
    walk_at "dl wgo"
    rw [ho]; exact q

set_option maxRecDepth 100000
set_option maxHeartbeats 8000000
open PySem PySem.Spec PyProof.Rows L2 DL
/-! ### the law's own product -/
theorem lprod_ok {w y : List Nat} (hy : Lt3 y) (lw : w.length ≤ 1000) (ly : y.length ≤ 1000) {π : Pn} {E} {Q : Dv → Pn → Prop} (q : Q (.val (tx (tms w y))) π) : wR (m_law_product [.val (tx (w ++ [67])), .val (tx y)] π) E Q := by
  unfold m_law_product b_law_product
  refine w_run ?_
  simp only [lit_C, lit_R, lit_e, lit_LR, lit_L]
  walk_at "dl wgo"
  refine o_w_slS (by simp; omega) (SX.butlast_snoc w 67) ?_
  walk_at "dl wgo"
  rw [signs_S]
  refine w_go (I := fun rest ρ π' => ∃ (u t : List Nat) (e2 : Sv), y = u ++ t ∧ rest = t.map (fun c => tx [c]) ∧ ρ = [.val (.val (tx (w ++ [67]))), .val (.val (tx y)), e2, .val (.val (tx w)), .val (.val (tx (tms w u)))] ∧ π' = π) ?_ ?_ ⟨[], y, _, rfl, rfl, rfl, rfl⟩
  · rintro d r ρ π' ⟨u, t, e2, e, hr, rfl, rfl⟩
    match t, hr with
    | c :: t, hr =>
      cases hr
      have hc := hy c (by rw [e]; simp)
      have lu : u.length < y.length := by rw [e]; simp
      have lt1 := tms_length w u
      have lt2 : (w.length + 1) * u.length ≤ 1001 * 1000 := Nat.mul_le_mul (by omega) (by omega)
      have fin : ∀ {c' : Nat}, c' = fl (od w) c → wO (dAdd (.val (tx (tms w u))) (.val (tx w))) fun z => wO (dAdd z (.val (tx [c']))) fun z => ∃ (u' t' : List Nat) (e2 : Sv), y = u' ++ t' ∧ t.map (fun c => tx [c]) = t'.map (fun c => tx [c]) ∧ ([.val (.val (tx (w ++ [67]))), .val (.val (tx y)), .val (.val (tx [c'])), .val (.val (tx w)), .val z] : List Sv) = [.val (.val (tx (w ++ [67]))), .val (.val (tx y)), e2, .val (.val (tx w)), .val (.val (tx (tms w u')))] ∧ π' = π' := by
        rintro _ rfl
        refine o_w_catS (by omega) ?_
        refine o_w_catS (by simp; omega) ?_
        refine ⟨u ++ [c], t, .val (.val (tx [fl (od w) c])), by rw [e]; simp, rfl, ?_, rfl⟩
        rw [List.append_assoc, show tms w (u ++ [c]) = tms w u ++ (w ++ [fl (od w) c]) by unfold tms; simp]
      walk_at "dl wgo"
      rw [sgn_eq]
      rcases hc with rfl | rfl | rfl
      · rw [decide_eq_false (by decide)]
        walk_at "dl wgo"
        rw [show Txt.count (SX.S w) (SX.S [82]) = PyProof.Rows.cnt 82 w from PyProof.Rows.count_cnt _ _, cnt_od2]
        cases ho : od w with
        | true =>
          rw [ho] at fin
          walk_at "dl wgo"
          exact fin rfl
        | false =>
          rw [ho] at fin
          walk_at "dl wgo"
          exact fin rfl
      · rw [decide_eq_true rfl]
        walk_at "dl wgo"
        exact fin (fl67 _).symm
      · rw [decide_eq_false (by decide)]
        walk_at "dl wgo"
        rw [show Txt.count (SX.S w) (SX.S [82]) = PyProof.Rows.cnt 82 w from PyProof.Rows.count_cnt _ _, cnt_od2]
        cases ho : od w with
        | true =>
          rw [ho] at fin
          walk_at "dl wgo"
          exact fin rfl
        | false =>
          rw [ho] at fin
          walk_at "dl wgo"
          exact fin rfl
  · rintro ρ π' ⟨u, t, e2, e, hr, rfl, rfl⟩
    match t, hr with
    | [], _ =>
      rw [List.append_nil] at e
      subst e
      walk_at "dl wgo"
      exact q

set_option maxRecDepth 100000
set_option maxHeartbeats 8000000
open PySem PySem.Spec PyProof.Rows L2 DL
/-! ### the root of a word and its greatest turn, as the law finds them -/
theorem rng_from (k m : Nat) (i j : Int) (hi : i = k) (hm : m = (j - i).toNat) : rngL i 1 m = (List.range' k m).map fun (i : Nat) => PyData.int (i : Nat) := by
  unfold rngL
  rw [List.range'_eq_map_range, List.map_map]
  refine List.map_congr_left fun a _ => ?_
  show PyData.int _ = PyData.int _
  congr 1
  rw [hi]; simp
theorem root_ok {w : List Nat} (hw : LR w) (l1 : 1 ≤ w.length) (l2 : w.length ≤ 1000) {π : Pn} {E} {Q : Dv → Pn → Prop} (q : ∀ r, Prim r → r.length ≤ w.length → Q (.val (tx r)) π) : wR (m_law_root [.val (tx w)] π) E Q := by
  unfold m_law_root b_law_root
  refine w_run ?_
  walk_at "dl wgo"
  refine w_rangeI2 ?_
  walk_at "dl wgo"
  refine o_w_lenT (by omega) ?_
  walk_at "dl wgo"
  refine ⟨by decide, by decide, by omega, by omega, by rw [rngL_len]; omega, ?_⟩
  rw [rng_from 1 _ 1 _ rfl rfl]
  refine w_cgo0 (J := fun rest acc π' => ∃ (k m : Nat), 1 ≤ k ∧ k + m = w.length + 1 ∧ rest = (List.range' k m).map (fun (i : Nat) => PyData.int (i : Nat)) ∧ ((acc = [] ∧ ∀ t, 1 ≤ t → t < k → w ≠ pw (w.take t) (w.length / t)) ∨ ∃ (s : Nat) (more : List PyData), acc = .int (s : Nat) :: more ∧ 1 ≤ s ∧ s ≤ w.length ∧ w = pw (w.take s) (w.length / s) ∧ ∀ t, 1 ≤ t → t < s → w ≠ pw (w.take t) (w.length / t)) ∧ π' = π) ?_ ?_ ⟨1, w.length, by decide, by omega, by rw [show ((w.length : Int) + 1 - 1).toNat = w.length by omega], .inl ⟨rfl, fun t h1 h2 => absurd h2 (by omega)⟩, rfl⟩
  · rintro d r acc π' ⟨k, m, k1, km, hr, ha, rfl⟩
    match m, hr with
    | m + 1, hr =>
      rw [List.range'_succ, List.map_cons] at hr
      cases hr
      walk_at "dl wgo"
      refine o_w_slS (by omega) (SX.slice_to (by omega)) ?_
      walk_at "dl wgo"
      refine o_w_lenT (by omega) ?_
      walk_at "dl wgo"
      obtain ⟨u, hu⟩ : ∃ u, w.length / k = u := ⟨_, rfl⟩
      have ld : u ≤ w.length := hu ▸ Nat.div_le_self w.length k
      rw [show (w.length : Int) / (k : Int) = (u : Int) from by rw [← hu]; exact (Int.natCast_ediv _ _).symm]
      refine rep_ok (by omega) (by omega) (by rw [List.length_take]; omega) ?_
      walk_at "dl wgo"
      rw [SX.S_beq_eq, Int.toNat_natCast, Int.toNat_natCast]
      refine w_ite (fun h2 => ?_) (fun h2 => ?_)
      · walk_at "dl wgo"
        have h2 : w = pw (w.take k) (w.length / k) := hu ▸ of_decide_eq_true h2
        refine ⟨k + 1, m, by omega, by omega, rfl, .inr ?_, rfl⟩
        rcases ha with ⟨rfl, ha⟩ | ⟨s, more, rfl, h3⟩
        · exact ⟨k, [], rfl, k1, by omega, h2, ha⟩
        · exact ⟨s, more ++ [.int (k : Nat)], rfl, h3⟩
      · have h2 : w ≠ pw (w.take k) (w.length / k) := hu ▸ of_decide_eq_false h2
        refine ⟨k + 1, m, by omega, by omega, rfl, ?_, rfl⟩
        rcases ha with ⟨rfl, ha⟩ | ha
        · refine .inl ⟨rfl, fun t t1 t2 => ?_⟩
          by_cases e : t = k
          · subst e; exact h2
          · exact ha t t1 (by omega)
        · exact .inr ha
  · rintro acc π' ⟨k, m, k1, km, hr, ha, rfl⟩
    match m, hr with
    | 0, _ =>
      rcases ha with ⟨rfl, ha⟩ | ⟨s, more, rfl, s1, s2, s3, s4⟩
      · exact absurd (by rw [List.take_length, Nat.div_self l1, pw_one]) (ha w.length l1 (by omega))
      · walk_at "dl wgo"
        refine o_w_idxL (atI_zero _ _) ?_
        walk_at "dl wgo"
        refine o_w_slS (by omega) (SX.slice_to (by omega)) ?_
        rw [Int.toNat_natCast]
        exact q _ (prim_of_least hw s1 s2 s3 s4) (by rw [List.length_take]; omega)
theorem rot_zero (r : List Nat) : rot 0 r = r := by unfold rot; simp
theorem rot_lr {r : List Nat} (h : LR r) (i : Nat) : LR (rot i r) := LR.app (fun c hc => h c (List.mem_of_mem_drop hc)) (fun c hc => h c (List.mem_of_mem_take hc))
theorem turn_ok {r : List Nat} (hp : Prim r) (l2 : r.length ≤ 400) {π : Pn} {E} {Q : Dv → Pn → Prop} (q : ∀ g, Prim g → g.length = r.length → Adm (g.dropLast ++ [67]) → Q (.val (tx g)) π) : wR (m_law_greatest_turn [.val (tx r)] π) E Q := by
  have l1 : 0 < r.length := List.length_pos_iff.mpr hp.ne
  have dbl : ∀ x : List Nat, (List.replicate (Int.toNat 2) x).flatten = x ++ x := fun x => by show x ++ (x ++ []) = _; rw [List.append_nil]
  unfold m_law_greatest_turn b_law_greatest_turn
  refine w_run ?_
  walk_at "dl wgo"
  refine w_rangeI1 ?_
  walk_at "dl wgo"
  refine o_w_lenT (by omega) ?_
  walk_at "dl wgo"
  refine ⟨by omega, by omega, ?_⟩
  rw [rng_nat, Int.toNat_natCast]
  refine w_go (I := fun rest ρ π' => ∃ (k j : Nat) (e2 e3 : Sv), k ≤ r.length ∧ j < r.length ∧ rest = ((List.range r.length).drop k).map (fun i => PyData.int (i : Nat)) ∧ ρ = [.val (.val (tx r)), .val (.val (tx (rot j r))), e2, e3] ∧ (∀ i, i < k → ord 1 (rot i r ++ rot i r) (rot j r ++ rot j r) ≤ 0) ∧ π' = π) ?_ ?_ ⟨0, 0, _, _, by omega, l1, rfl, by rw [rot_zero]; rfl, fun i h => absurd h (by omega), rfl⟩
  · rintro d r2 ρ π' ⟨k, j, e2, e3, hk, hj, hr, rfl, ha, rfl⟩
    by_cases h : k < r.length
    · rw [List.drop_eq_getElem_cons (by rw [List.length_range]; exact h), List.map_cons, List.getElem_range] at hr
      cases hr
      have lk := rot_len k r
      have lj := rot_len j r
      have qk := rot_lr hp.lr k
      have qj := rot_lr hp.lr j
      walk_at "dl wgo"
      refine o_w_slS (by omega) (SX.slice_from (by omega)) ?_
      walk_at "dl wgo"
      refine o_w_slS (by omega) (SX.slice_to (by omega)) ?_
      walk_at "dl wgo"
      refine o_w_catS (by rw [List.length_drop, List.length_take]; omega) ?_
      rw [Int.toNat_natCast, show r.drop k ++ r.take k = rot k r from rfl]
      walk_at "dl wgo"
      refine rep_ok (by decide) (by decide) (by omega) ?_
      walk_at "dl wgo"
      refine rep_ok (by decide) (by decide) (by omega) ?_
      rw [dbl, dbl]
      walk_at "dl wgo"
      refine lcomp_ok (LR.app qk qk).lt3 (LR.app qj qj).lt3 ?_
      walk_at "dl wgo"
      refine w_ite (fun h2 => ?_) (fun h2 => ?_)
      · have h2 : ord 1 (rot k r ++ rot k r) (rot j r ++ rot j r) > 0 := of_decide_eq_true h2
        walk_at "dl wgo"
        refine ⟨k + 1, k, _, _, h, h, rfl, rfl, fun i hi => ?_, rfl⟩
        by_cases e : i = k
        · subst e; rw [ord_self]; decide
        · have h3 := ha i (by omega)
          have qi := rot_lr hp.lr i
          have li := rot_len i r
          have an := ord_anti (s := 1) (LR.app qk qk).lt3 (LR.app qj qj).lt3
          have s1 : (rot i r ++ rot i r).length = (rot j r ++ rot j r).length := by rw [List.length_append, List.length_append]; omega
          have s2 : (rot j r ++ rot j r).length = (rot k r ++ rot k r).length := by rw [List.length_append, List.length_append]; omega
          by_cases z : ord 1 (rot i r ++ rot i r) (rot j r ++ rot j r) = 0
          · rw [ordw_zero (LR.app qi qi) (LR.app qj qj) s1 (by decide) z]; omega
          · have := ordw_trans (LR.app qi qi) (LR.app qj qj) (LR.app qk qk) s1 s2 (by omega) (by omega)
            omega
      · have h2 : ¬ ord 1 (rot k r ++ rot k r) (rot j r ++ rot j r) > 0 := of_decide_eq_false h2
        walk_at "dl wgo"
        refine ⟨k + 1, j, _, _, h, hj, rfl, rfl, fun i hi => ?_, rfl⟩
        by_cases e : i = k
        · subst e; omega
        · exact ha i (by omega)
    · rw [List.drop_eq_nil_of_le (by rw [List.length_range]; omega)] at hr
      cases hr
  · rintro ρ π' ⟨k, j, e2, e3, hk, hj, hr, rfl, ha, rfl⟩
    have h : ¬ k < r.length := fun h => by
      rw [List.drop_eq_getElem_cons (by rw [List.length_range]; exact h)] at hr
      cases hr
    walk_at "dl wgo"
    refine q _ (hp.turn hj) (rot_len j r) (turn_adm (hp.turn hj) fun i hi => ?_)
    rw [rot_len] at hi
    rw [rot_rot hi hj]
    exact ha _ (by have := Nat.mod_lt (j + i) l1; omega)

set_option maxRecDepth 100000
set_option maxHeartbeats 8000000
open PySem PySem.Spec PyProof.Rows L2 DL
theorem oneS_ok {n : Nat} {pe : PenS} (g : Good n pe) (hn : n ≤ 1000000) {x : List Nat} (h0 : x ≠ []) (h2 : x.length ≤ 1000) {E} {Q : Dv → Pn → Prop} (q : ∀ c pe, c ∈ x → Good (n + 1) pe → Q (.val (tx [c])) (some pe)) : wR (m_law_one [.pen, .val (tx x)] (some pe)) E Q := by
  unfold m_law_one b_law_one
  refine w_run ?_
  have hl : 0 < x.length := List.length_pos_iff.mpr h0
  walk_at "dl wgo"
  refine o_w_lenT (by omega) ?_
  walk_at "dl wgo"
  refine take_ok g hn (by omega) (by omega) fun r pe' r0 r1 g' => ?_
  obtain ⟨c, hc, ex⟩ := atI_nat (xs := x) r0 r1
  walk_at "dl wgo"
  refine o_w_idxS (by rw [SX.S_len]; omega) ex ?_
  exact q _ _ hc g'

set_option maxRecDepth 100000
set_option maxHeartbeats 8000000
open PySem PySem.Spec PyProof.Rows L2 DL
/-! ### an admissible code by draws -/
theorem lit_RRL : Str.ofString "RRL" = SX.S [82, 82, 76] := by decide +kernel
theorem lit_LLR : Str.ofString "LLR" = SX.S [76, 76, 82] := by decide +kernel
theorem lit_R5L : Str.ofString "RRRRRL" = SX.S [82, 82, 82, 82, 82, 76] := by decide +kernel
theorem lit_L6R : Str.ofString "LLLLLLR" = SX.S [76, 76, 76, 76, 76, 76, 82] := by decide +kernel
theorem lit_RLC : Str.ofString "RLC" = SX.S [82, 76, 67] := by decide +kernel
theorem lit_RLLC : Str.ofString "RLLC" = SX.S [82, 76, 76, 67] := by decide +kernel
theorem lit_RLRC : Str.ofString "RLRC" = SX.S [82, 76, 82, 67] := by decide +kernel
theorem lit_RLRRC : Str.ofString "RLRRC" = SX.S [82, 76, 82, 82, 67] := by decide +kernel
theorem letters_ok {n : Nat} {pe : PenS} (g : Good n pe) {k : Int} (hn : n + 1 + k.toNat ≤ 1000000) (hk : k ≤ 1000) (hk0 : 0 ≤ k) {E} {Q : Dv → Pn → Prop} (q : ∀ x pe, LR x → x.length = k.toNat → Good (n + 1 + k.toNat) pe → Q (.val (tx x)) (some pe)) : wR (m_law_letters [.pen, .val (.int k)] (some pe)) E Q := by
  unfold m_law_letters b_law_letters
  refine w_run ?_
  simp only [lit_e, lit_LR, lit_RRL, lit_LLR, lit_R5L, lit_L6R]
  walk_at "dl wgo"
  refine one_ok g (by omega) (by simp) (by simp) fun d pe hd g => ?_
  obtain ⟨u, hu, u1, u2, rfl⟩ : ∃ u : List Nat, LR u ∧ u ≠ [] ∧ u.length ≤ 1000 ∧ d = tx u := by
    simp only [List.mem_cons, List.not_mem_nil, or_false] at hd
    rcases hd with rfl | rfl | rfl | rfl | rfl | rfl <;> exact ⟨_, by unfold LR; decide, by simp, by decide, rfl⟩
  walk_at "dl wgo"
  refine w_rangeI1 ?_
  walk_at "dl wgo"
  refine ⟨by omega, by omega, by rw [rngL_len]; omega, ?_⟩
  refine w_cgo0 (J := fun rest acc π => ∃ x pe, acc = x.map (fun c => tx [c]) ∧ LR x ∧ x.length + rest.length = k.toNat ∧ π = some pe ∧ Good (n + 1 + x.length) pe) ?_ ?_ ⟨[], pe, rfl, fun _ h => absurd h List.not_mem_nil, by rw [rngL_len]; simp, rfl, g⟩
  · rintro d r acc π ⟨x, pe, rfl, hx, hl, rfl, g⟩
    simp only [List.length_cons] at hl
    walk_at "dl wgo"
    refine oneS_ok g (by omega) u1 u2 fun c pe hc g' => ?_
    refine ⟨_, rfl, x ++ [c], pe, by simp, LR.app hx (LR.one (hu c hc)), by simp; omega, rfl, ?_⟩
    rw [List.length_append]; exact g'
  · rintro acc π ⟨x, pe, rfl, hx, hl, rfl, g⟩
    walk_at "dl wgo"
    have e : (x.map fun c => tx [c]) = (x.map fun c => [c]).map tx := by rw [List.map_map]; rfl
    have e2 := flat_one x
    rw [e]
    simp only [List.length_nil, Nat.add_zero] at hl
    refine join_ok (by rw [e2]; omega) ?_
    rw [e2]
    exact q x pe hx hl (hl ▸ g)
theorem small_adm {d : PyData} (h : d ∈ [tx [82, 67], tx [82, 76, 67], tx [82, 76, 76, 67], tx [82, 76, 82, 67], tx [82, 76, 82, 82, 67]]) : ∃ y : List Nat, Cd y ∧ Adm y ∧ 2 ≤ y.length ∧ y.length ≤ 5 ∧ d = tx y := by
  simp only [List.mem_cons, List.not_mem_nil, or_false] at h
  have cd : ∀ {w : List Nat}, LR w → Cd (w ++ [67]) := Cd.of
  rcases h with rfl | rfl | rfl | rfl | rfl
  · exact ⟨_, cd (w := [82]) (by unfold LR; decide), by unfold Adm; decide +kernel, by decide, by decide, rfl⟩
  · exact ⟨_, cd (w := [82, 76]) (by unfold LR; decide), by unfold Adm; decide +kernel, by decide, by decide, rfl⟩
  · exact ⟨_, cd (w := [82, 76, 76]) (by unfold LR; decide), by unfold Adm; decide +kernel, by decide, by decide, rfl⟩
  · exact ⟨_, cd (w := [82, 76, 82]) (by unfold LR; decide), by unfold Adm; decide +kernel, by decide, by decide, rfl⟩
  · exact ⟨_, cd (w := [82, 76, 82, 82]) (by unfold LR; decide), by unfold Adm; decide +kernel, by decide, by decide, rfl⟩
theorem dropLast_text (l : List Nat) : Txt.slice (SX.S l) none (some (-1)) = SX.S l.dropLast := by
  rw [slice_cut, cutD_toneg l (by decide), List.dropLast_eq_take]
  rfl
theorem adm_RC : Adm [82, 67] := by unfold Adm; decide +kernel
theorem lrR : LR [82] := LR.one (.inr rfl)
theorem ldraw_ok {n : Nat} {pe : PenS} (g : Good n pe) {most : Int} (h1 : 1 ≤ most) (h3 : most ≤ 40) (hn : n + 100 ≤ 1000000) {E} {Q : Dv → Pn → Prop} (q : ∀ x pe, Cd x → Adm x → (x.length : Int) ≤ most → Good (n + 50) pe → Q (.val (tx x)) (some pe)) : wR (m_law_draw [.pen, .val (.int most)] (some pe)) E Q := by
  unfold m_law_draw b_law_draw
  refine w_run ?_
  simp only [lit_C, lit_RC, lit_RLC, lit_RLLC, lit_RLRC, lit_RLRRC]
  walk_at "dl wgo"
  refine take_ok g (by omega) (by omega) (by omega) fun i pe i0 i1 g => ?_
  walk_at "dl wgo"
  refine letters_ok g (by omega) (by omega) (by omega) fun w pe hw lw g => ?_
  refine root_ok hw (by omega) (by omega) fun r hr lr => ?_
  walk_at "dl wgo"
  refine turn_ok hr (by omega) fun y hy ly hA => ?_
  have l1 : 0 < y.length := List.length_pos_iff.mpr hy.ne
  walk_at "dl wgo"
  refine o_w_slS (by omega) (dropLast_text y) ?_
  walk_at "dl wgo"
  refine o_w_catS (by rw [List.length_dropLast]; simp; omega) ?_
  have hL : LR y.dropLast := fun c hc => hy.lr c (List.dropLast_subset _ hc)
  have lx : (y.dropLast ++ [67]).length = y.length := by rw [List.length_append, List.length_dropLast]; simp; omega
  have lp : y.dropLast.length = y.length - 1 := List.length_dropLast
  generalize y.dropLast = p at *
  have cx : Cd (p ++ [67]) := Cd.of hL
  have g : Good (n + 45) pe := g.mono (by omega)
  walk_at "dl wgo"
  refine take_ok g (by omega) (by omega) (by omega) fun s pe s0 s1 g => ?_
  have fin : ∀ {π : Pn} {x : List Nat}, Cd x → Adm x → (x.length : Int) ≤ most → π = some pe → Q (.val (tx x)) π := fun a b c d => by subst d; exact q _ _ a b c (g.mono (by omega))
  have lm : ∀ y2 : List Nat, ((tms p y2).length : Int) = ((p ++ [67]).length : Int) * (y2.length : Int) := fun y2 => by
    rw [tms_length, Int.natCast_mul]; congr 1; simp
  have l40 : (p ++ [67]).length ≤ 40 := by omega
  refine w_cut (fun ρ π => ρ = [.val .pen, .val (.val (.int most)), .val (.val (tx r)), .val (.val (tx (p ++ [67]))), .val (.val (.int s)), .emp] ∧ π = some pe) ?_ ?_
  · walk_at "dl wgo"
    refine w_ite (fun h => ?_) (fun h => ?_)
    · walk_at "dl wgo"
      refine o_w_lenT (by omega) ?_
      walk_at "dl wgo"
      refine w_ite (fun h => ?_) (fun h => ?_)
      · have h : (2 : Int) * ((p ++ [67]).length : Int) ≤ most := of_decide_eq_true h
        walk_at "dl wgo"
        refine lprod_ok (w := [82]) cx.lt3 (by decide) (by omega) ?_
        refine fin (tms_cd lrR cx) (adm_tms lrR adm_RC cx hA) ?_ rfl
        rw [tms_length]
        have : (([82] : List Nat).length + 1) = 2 := rfl
        rw [this, Int.natCast_mul]; exact h
      · walk_at "dl wgo"
        exact ⟨rfl, rfl⟩
    · walk_at "dl wgo"
      exact ⟨rfl, rfl⟩
  rintro ρ π ⟨rfl, rfl⟩
  walk_at "dl wgo"
  refine w_ite (fun h => ?_) (fun h => ?_)
  · walk_at "dl wgo"
    refine o_w_lenT (by omega) ?_
    walk_at "dl wgo"
    refine w_ite (fun h => ?_) (fun h => ?_)
    · have ho : ((p ++ [67]).length : Int) * 2 ≤ most := of_decide_eq_true h
      walk_at "dl wgo"
      refine one_ok g (by omega) (by simp) (by simp) fun d pe hd g => ?_
      obtain ⟨y2, c2, a2, l2, l3, rfl⟩ := small_adm hd
      have fin : ∀ {π : Pn} {x : List Nat}, Cd x → Adm x → (x.length : Int) ≤ most → π = some pe → Q (.val (tx x)) π := fun a b c d => by subst d; exact q _ _ a b c (g.mono (by omega))
      walk_at "dl wgo"
      refine o_w_lenT (by omega) ?_
      walk_at "dl wgo"
      refine o_w_lenT (by omega) ?_
      walk_at "dl wgo"
      refine w_ite (fun h => ?_) (fun h => ?_)
      · have h : ((p ++ [67]).length : Int) * (y2.length : Int) ≤ most := of_decide_eq_true h
        walk_at "dl wgo"
        refine lprod_ok (w := p) c2.lt3 (by omega) (by omega) ?_
        walk_at "dl wgo"
        exact fin (tms_cd hL c2) (adm_tms hL hA c2 a2) (by rw [lm]; exact h) rfl
      · walk_at "dl wgo"
        refine lprod_ok (w := p) (y := [82, 67]) (Cd.of lrR).lt3 (by omega) (by decide) ?_
        walk_at "dl wgo"
        exact fin (tms_cd hL (Cd.of lrR)) (adm_tms hL hA (Cd.of lrR) adm_RC) (by rw [lm]; exact ho) rfl
    · walk_at "dl wgo"
      exact fin cx hA (by omega) rfl
  · walk_at "dl wgo"
    exact fin cx hA (by omega) rfl

set_option maxRecDepth 100000
set_option maxHeartbeats 8000000
open PySem PySem.Spec PyProof.Rows L2 DL
/-! ### the first greater tail -/
/-- the least index from k on of a greater tail -/
def fg (x : List Nat) : Nat → Nat → Option Nat
  | 0, _ => none
  | m + 1, k => if ord 1 (x.drop k) x > 0 then some k else fg x m (k + 1)
def ret : Option Nat → PyData
  | none => .none
  | some k => .int (k : Nat)
theorem fg_none {x : List Nat} : ∀ (m k : Nat), (∀ i, k ≤ i → i < k + m → ord 1 (x.drop i) x ≤ 0) → fg x m k = none
  | 0, _, _ => rfl
  | m + 1, k, h => by
    have := h k (by omega) (by omega)
    show (if ord 1 (x.drop k) x > 0 then some k else fg x m (k + 1)) = none
    rw [if_neg (by omega)]
    exact fg_none m (k + 1) fun i a b => h i (by omega) (by omega)
theorem Adm.fg {x : List Nat} (h : Adm x) (hl : 1 ≤ x.length) : fg x (x.length - 1) 1 = none := fg_none _ _ fun i a b => h i (by omega)

set_option maxRecDepth 100000
set_option maxHeartbeats 8000000
open PySem PySem.Spec PyProof.Rows L2 DL
theorem first_ok {x : List Nat} (hx : Lt3 x) (hl : 1 ≤ x.length ∧ x.length ≤ 1000) {π : Pn} {E} {Q : Dv → Pn → Prop} (q : Q (.val (ret (fg x (x.length - 1) 1))) π) : wR (m_first_greater [.val (tx x)] π) E Q := by
  unfold m_first_greater b_first_greater
  refine w_run ?_
  walk_at "dl wgo"
  refine w_rangeI2 ?_
  walk_at "dl wgo"
  refine o_w_lenT (by omega) ?_
  walk_at "dl wgo"
  refine ⟨by decide, by decide, by omega, by omega, ?_⟩
  refine w_go (I := fun rest ρ π' => ∃ (k m : Nat) (e1 : Sv), k + m = x.length ∧ 1 ≤ k ∧ rest = (List.range' k m).map (fun i => PyData.int (i : Nat)) ∧ ρ = [.val (.val (tx x)), e1] ∧ π' = π ∧ fg x m k = fg x (x.length - 1) 1) ?_ ?_ ⟨1, x.length - 1, _, by omega, by omega, ?_, rfl, rfl, rfl⟩
  · rintro d r ρ π' ⟨k, m, e1, hk, k1, hr, rfl, rfl, hf⟩
    match m, hr with
    | m + 1, hr =>
      rw [List.range'_succ, List.map_cons] at hr
      cases hr
      walk_at "dl wgo"
      refine o_w_slS (by omega) (SX.slice_from (by omega)) ?_
      walk_at "dl wgo"
      refine order_ok (fun c hc => hx c (List.mem_of_mem_drop hc)) hx ?_
      walk_at "dl wgo"
      rw [Int.toNat_natCast]
      refine w_ite (fun h => ?_) (fun h => ?_)
      · have h : ord 1 (x.drop k) x > 0 := of_decide_eq_true h
        have e : fg x (m + 1) k = some k := if_pos h
        rw [← hf, e] at q
        walk_at "dl wgo"
        exact q
      · have h : ¬ ord 1 (x.drop k) x > 0 := of_decide_eq_false h
        have e : fg x (m + 1) k = fg x m (k + 1) := if_neg h
        walk_at "dl wgo"
        exact ⟨k + 1, m, _, by omega, by omega, rfl, rfl, rfl, by rw [← hf, e]⟩
  · rintro ρ π' ⟨k, m, e1, hk, k1, hr, rfl, rfl, hf⟩
    match m, hr with
    | 0, _ =>
      have e : fg x 0 k = none := rfl
      rw [← hf, e] at q
      walk_at "dl wgo"
      exact q
  · unfold rngL
    rw [show ((x.length : Int) - 1).toNat = x.length - 1 by omega, List.range'_eq_map_range, List.map_map]
    refine List.map_congr_left fun i _ => ?_
    show PyData.int ((1 : Int) + (i : Int) * 1) = PyData.int ((1 + i : Nat) : Int)
    congr 1; omega

set_option maxRecDepth 100000
set_option maxHeartbeats 8000000
open PySem PySem.Spec PyProof.Rows L2 DL
/-! ### repr: how long a text it is -/
structure Rp (d : PyData) (k n : Nat) : Prop where
  s : d.showable = true
  h : d.hasDict = false
  p : d.depth ≤ k
  l : d.shown.length ≤ n
theorem repr_of {d : PyData} {k n : Nat} (r : Rp d k n) (hk : k ≤ 40) (hn : n ≤ 16777216) {Q : Dv → Prop} (q : Q (.val (.str d.shown))) : wO (bRepr [.val d]) Q := by
  have e : bRepr [.val d] = some (.val (.str d.shown)) := if_pos ⟨r.s, r.h, Nat.le_trans r.p hk, Nat.le_trans r.l hn⟩
  rw [e]; exact q
theorem Rp.le {d : PyData} {k n m : Nat} (r : Rp d k n) (h : n ≤ m) : Rp d k m := ⟨r.s, r.h, r.p, Nat.le_trans r.l h⟩
theorem Rp.up {d : PyData} {k j n : Nat} (r : Rp d k n) (h : k ≤ j) : Rp d j n := ⟨r.s, r.h, Nat.le_trans r.p h, r.l⟩
theorem Rp.non : Rp .none 0 4 := ⟨rfl, rfl, Nat.le_refl _, by decide⟩
theorem Rp.bl (b : Bool) : Rp (.bool b) 0 5 := ⟨rfl, rfl, Nat.le_refl _, by cases b <;> decide⟩
theorem Rp.str {x : Str} {m : Nat} (h : ∀ c ∈ x.cps.toList, c < 16 ^ 8) (l : x.length ≤ m) : Rp (.str x) 0 (10 * m + 2) :=
  ⟨rfl, rfl, Nat.le_refl _, by rw [PyData.shown_str]; exact Nat.le_trans (StrLaws.reprText_len x h) (by omega)⟩
theorem Rp.tx {x : List Nat} {m : Nat} (h : ∀ c ∈ x, c < 16 ^ 8) (l : x.length ≤ m) : Rp (tx x) 0 (10 * m + 2) := .str (x := SX.S x) h (by rw [SX.S_len]; exact l)
theorem Rp.int {i : Int} {b : Nat} (hb : i.natAbs < 2 ^ b) (b0 : 0 < b) (hb2 : b ≤ 1920) : Rp (.int i) 0 (b + 1) := by
  have hl := log2_lt hb b0
  refine ⟨?_, rfl, Nat.le_refl _, ?_⟩
  · show decide (i.natAbs.log2 < 1920) = true
    exact decide_eq_true (by omega)
  · have h := int_text_length_le b0 hl
    show (Str.ofString (toString i)).length ≤ b + 1
    rw [PySem.ofString_length]; exact h
theorem all_rp {l : List PyData} {k n : Nat} (h : ∀ d ∈ l, Rp d k n) : PyData.showableAll l = true ∧ PyData.hasDictAll l = false ∧ PyData.depthAll l ≤ k ∧ (∀ t ∈ PyData.shownAll l, t.length ≤ n) ∧ (PyData.shownAll l).length = l.length := by
  induction l with
  | nil => exact ⟨rfl, rfl, Nat.zero_le _, (fun t h => absurd h List.not_mem_nil), rfl⟩
  | cons d l ih =>
    obtain ⟨a, b, c, e, f⟩ := ih fun d hd => h d (List.mem_cons_of_mem _ hd)
    obtain ⟨a1, b1, c1, e1⟩ := h d List.mem_cons_self
    refine ⟨?_, ?_, ?_, ?_, ?_⟩
    · show (d.showable && PyData.showableAll l) = true
      rw [a1, a]; rfl
    · show (d.hasDict || PyData.hasDictAll l) = false
      rw [b1, b]; rfl
    · show max d.depth (PyData.depthAll l) ≤ k
      omega
    · intro t ht
      rcases List.mem_cons.mp (show t ∈ d.shown :: PyData.shownAll l from ht) with rfl | ht
      · exact e1
      · exact e t ht
    · show (PyData.shownAll l).length + 1 = l.length + 1
      rw [f]
theorem piled_le {ts : List Str} {n : Nat} (h : ∀ t ∈ ts, t.length ≤ n) : piled ts ≤ ts.length * (n + 2) := by
  induction ts with
  | nil => exact Nat.zero_le _
  | cons t ts ih =>
    have := ih fun t ht => h t (List.mem_cons_of_mem _ ht)
    have := h t List.mem_cons_self
    show (((t :: ts).map fun t => t.length + 2).sum) ≤ _
    rw [List.map_cons, List.sum_cons, List.length_cons, Nat.succ_mul]
    have e : (ts.map fun t => t.length + 2).sum = piled ts := rfl
    omega
theorem from_le : ∀ (ts : List Str) (k : Nat) (acc : Str), (textFrom k acc ts).length ≤ acc.length + piled ts
  | [], _, _ => Nat.le_add_right _ _
  | t :: r, k, acc => by
    have := from_le r (k + 1) (acc ++ (if k > 0 then ", " else "" : String) ++ t)
    rw [Str.length_append, Str.length_append] at this
    have e2 : (Str.ofString (if k > 0 then ", " else "" : String)).length ≤ 2 := by split <;> decide
    have e : piled (t :: r) = t.length + 2 + piled r := by show ((t :: r).map fun t => t.length + 2).sum = _; rw [List.map_cons, List.sum_cons]; rfl
    show (textFrom (k + 1) _ r).length ≤ _
    omega
theorem Rp.lst {l : List PyData} {k n : Nat} (h : ∀ d ∈ l, Rp d k n) : Rp (.list l) (k + 1) (l.length * (n + 2) + 2) := by
  obtain ⟨a, b, c, e, f⟩ := all_rp h
  refine ⟨a, b, Nat.succ_le_succ c, ?_⟩
  show (textFrom 0 "[" (PyData.shownAll l) ++ "]" : Str).length ≤ _
  rw [Str.length_append]
  have h1 := from_le (PyData.shownAll l) 0 "["
  have h2 := piled_le e
  rw [f] at h2
  have e1 : (Str.ofString "[").length = 1 := by decide
  have e2 : (Str.ofString "]").length = 1 := by decide
  omega
theorem Rp.tup {l : List PyData} {k n : Nat} (h : ∀ d ∈ l, Rp d k n) : Rp (.tuple l) (k + 1) (l.length * (n + 2) + 3) := by
  obtain ⟨a, b, c, e, f⟩ := all_rp h
  refine ⟨a, b, Nat.succ_le_succ c, ?_⟩
  show (Str.ofString "(" ++ Str.join ", " (PyData.shownAll l) ++ Str.ofString (if (PyData.shownAll l).length == 1 then ",)" else ")" : String)).length ≤ _
  rw [Str.length_append, Str.length_append]
  have h2 := piled_le e
  rw [f] at h2
  have e1 : (Str.ofString "(").length = 1 := by decide
  have e2 : (Str.ofString (if (PyData.shownAll l).length == 1 then ",)" else ")" : String)).length ≤ 2 := by split <;> decide
  have e3 : (Str.join ", " (PyData.shownAll l)).length ≤ piled (PyData.shownAll l) := by
    by_cases z : PyData.shownAll l = []
    · rw [z]; exact Nat.zero_le _
    · have := join_length_add _ z; omega
  omega
theorem Rp.pair {a b : PyData} {k n : Nat} (ha : Rp a k n) (hb : Rp b k n) : Rp (.tuple [a, b]) (k + 1) (2 * (n + 2) + 3) := .tup (l := [a, b]) fun d hd => by
  simp only [List.mem_cons, List.not_mem_nil, or_false] at hd
  rcases hd with rfl | rfl
  · exact ha
  · exact hb
theorem Rp.one {a : PyData} {k n : Nat} (ha : Rp a k n) : Rp (.tuple [a]) (k + 1) (1 * (n + 2) + 3) := .tup (l := [a]) fun d hd => by
  simp only [List.mem_cons, List.not_mem_nil, or_false] at hd
  subst hd; exact ha
theorem shown_beq (d : PyData) : (d.shown == d.shown) = true := beq_self_eq_true _

set_option maxRecDepth 100000
set_option maxHeartbeats 8000000
open PySem PySem.Spec PyProof.Rows L2 DL
theorem ne_ok {xs ys : List PyData} (b : Bool) (hs : (SeqAt.shaped (.list xs) && SeqAt.shaped (.list ys)) = true) (he : PyData.eqv (.list xs) (.list ys) = b) {Q : Dv → Prop} (q : Q (.val (.bool (!b)))) : wO (dNe (.val (.list xs)) (.val (.list ys))) Q := by
  have e : dNe (.val (.list xs)) (.val (.list ys)) = some (.val (.bool (!b))) := by
    show ((if (SeqAt.shaped (.list xs) && SeqAt.shaped (.list ys)) = true then some (PyData.eqv (.list xs) (.list ys)) else none).map fun b => Dv.val (.bool (!b))) = _
    rw [if_pos hs, he]; rfl
  rw [e]; exact q
theorem eq_ok {xs ys : List PyData} (b : Bool) (hs : (SeqAt.shaped (.list xs) && SeqAt.shaped (.list ys)) = true) (he : PyData.eqv (.list xs) (.list ys) = b) {Q : Dv → Prop} (q : Q (.val (.bool b))) : wO (dEq (.val (.list xs)) (.val (.list ys))) Q := by
  have e : dEq (.val (.list xs)) (.val (.list ys)) = some (.val (.bool b)) := by
    show ((if (SeqAt.shaped (.list xs) && SeqAt.shaped (.list ys)) = true then some (PyData.eqv (.list xs) (.list ys)) else none).map fun b => Dv.val (.bool b)) = _
    rw [if_pos hs, he]; rfl
  rw [e]; exact q

set_option maxRecDepth 100000
set_option maxHeartbeats 8000000
open PySem PySem.Spec PyProof.Rows L2 DL
/-! ### lists of numbers -/
theorem lay_ints : ∀ l : List Nat, PyData.canLayAll0 (l.map fun (i : Nat) => PyData.int i) = true ∧ PyData.depthAll (l.map fun (i : Nat) => PyData.int i) = 0
  | [] => ⟨rfl, rfl⟩
  | i :: l => by
    obtain ⟨a, b⟩ := lay_ints l
    refine ⟨?_, ?_⟩
    · show (true && PyData.canLayAll0 (l.map fun (i : Nat) => PyData.int i)) = true
      rw [a]; rfl
    · show max 0 (PyData.depthAll (l.map fun (i : Nat) => PyData.int i)) = 0
      rw [b]; rfl
theorem shaped_ints (l : List Nat) : SeqAt.shaped (.list (l.map fun (i : Nat) => PyData.int i)) = true := by
  obtain ⟨a, b⟩ := lay_ints l
  show (PyData.canLayAll0 (l.map fun (i : Nat) => PyData.int i) && decide (PyData.depthAll (l.map fun (i : Nat) => PyData.int i) + 1 ≤ 64)) = true
  rw [a, b]; rfl
theorem ne_nil_ok (l : List Nat) {Q : Dv → Prop} (q : Q (.val (.bool (!l.isEmpty)))) : wO (dNe (.val (.list (l.map fun (i : Nat) => PyData.int i))) (.val (.list []))) Q :=
  ne_ok l.isEmpty (by rw [shaped_ints l]; rfl) (by cases l <;> rfl) q
theorem eq_nil_ok (l : List Nat) {Q : Dv → Prop} (q : Q (.val (.bool l.isEmpty))) : wO (dEq (.val (.list (l.map fun (i : Nat) => PyData.int i))) (.val (.list []))) Q :=
  eq_ok l.isEmpty (by rw [shaped_ints l]; rfl) (by cases l <;> rfl) q
theorem fg_head (x : List Nat) : ∀ (m k : Nat), fg x m k = ((List.range' k m).filter fun i => decide (0 < ord 1 (x.drop i) x)).head?
  | 0, _ => rfl
  | m + 1, k => by
    show (if ord 1 (x.drop k) x > 0 then some k else fg x m (k + 1)) = _
    rw [List.range'_succ, List.filter_cons]
    by_cases h : ord 1 (x.drop k) x > 0
    · rw [if_pos h, if_pos (by simpa using h)]; rfl
    · rw [if_neg h, if_neg (by simpa using h), fg_head x m]
theorem fg_zero (x : List Nat) (hl : 1 ≤ x.length) : fg x x.length 0 = fg x (x.length - 1) 1 := by
  obtain ⟨m, hm⟩ : ∃ m, x.length = m + 1 := ⟨x.length - 1, by omega⟩
  rw [hm]
  show (if ord 1 (x.drop 0) x > 0 then some 0 else fg x m (0 + 1)) = _
  rw [List.drop_zero, ord_self, if_neg (by omega)]; rfl
/-- whether no tail is greater -/
def gd (x : List Nat) : Bool := (fg x (x.length - 1) 1).isNone
theorem gd_filter {x : List Nat} (hl : 1 ≤ x.length) : ((List.range x.length).filter fun i => decide (0 < ord 1 (x.drop i) x)).isEmpty = gd x := by
  unfold gd
  rw [← fg_zero x hl, fg_head, ← List.range_eq_range']
  cases (List.range x.length).filter fun i => decide (0 < ord 1 (x.drop i) x) <;> rfl

set_option maxRecDepth 100000
set_option maxHeartbeats 8000000
open PySem PySem.Spec PyProof.Rows L2 DL
theorem gd_of {x : List Nat} (h : Adm x) (hl : 1 ≤ x.length) : gd x = true := by
  unfold gd; rw [h.fg hl]; rfl

set_option maxRecDepth 100000
set_option maxHeartbeats 8000000
open PySem PySem.Spec PyProof.Rows L2 DL
/-! ### lists compared -/
theorem ok_tx {x : List Nat} (h : ∀ c ∈ x, c < 1114112) : PyData.canLay0 (tx x) = true := by
  show ((SX.S x).cps.all fun c => decide (c < 0x110000)) = true
  rw [← Array.all_toList]
  exact List.all_eq_true.mpr fun c hc => decide_eq_true (h c hc)
theorem Lt3.small {x : List Nat} (h : Lt3 x) : ∀ c ∈ x, c < 1114112 := fun c hc => by rcases h c hc with rfl | rfl | rfl <;> decide
theorem Lt3.rp {x : List Nat} (h : Lt3 x) : ∀ c ∈ x, c < 16 ^ 8 := fun c hc => by rcases h c hc with rfl | rfl | rfl <;> decide
theorem shaped_list {l : List PyData} (h : ∀ d ∈ l, d.canLay0 = true ∧ d.depth ≤ 60) : SeqAt.shaped (.list l) = true := by
  have key : PyData.canLayAll0 l = true ∧ PyData.depthAll l ≤ 60 := by
    induction l with
    | nil => exact ⟨rfl, Nat.zero_le _⟩
    | cons d l ih =>
      obtain ⟨a, b⟩ := ih fun d hd => h d (List.mem_cons_of_mem _ hd)
      obtain ⟨c, e⟩ := h d List.mem_cons_self
      refine ⟨?_, ?_⟩
      · show (d.canLay0 && PyData.canLayAll0 l) = true
        rw [c, a]; rfl
      · show max d.depth (PyData.depthAll l) ≤ 60
        omega
  show (PyData.canLayAll0 l && decide (PyData.depthAll l + 1 ≤ 64)) = true
  rw [key.1, decide_eq_true (by omega)]; rfl
theorem eqv_tx (x y : List Nat) : PyData.eqv (tx x) (tx y) = decide (x = y) := by
  show (SX.S x == SX.S y) = _
  rw [SX.S_beq_eq]

set_option maxRecDepth 100000
set_option maxHeartbeats 8000000
open PySem PySem.Spec PyProof.Rows L2 DL
/-! ### codes among all values -/
def icB (l : List Nat) : Bool := decide (1 ≤ l.length ∧ l.length ≤ 40) && (l.getLast? == some 67) && (l.dropLast.all fun c => decide (c ∈ [76, 82]))
theorem icB_iff (l : List Nat) : icB l = true ↔ IsC l := by
  unfold icB IsC
  simp only [Bool.and_eq_true, decide_eq_true_eq, beq_iff_eq, List.all_eq_true]
  constructor
  · rintro ⟨⟨⟨h1, h2⟩, h3⟩, h4⟩
    refine ⟨l.dropLast, fun c hc => ?_, by rw [List.length_dropLast]; omega, ?_⟩
    · have := h4 c hc
      simpa using this
    · have hne : l ≠ [] := by intro z; rw [z] at h1; simp at h1
      have h5 := List.dropLast_concat_getLast hne
      rw [List.getLast?_eq_some_getLast hne] at h3
      rw [← Option.some.inj h3]; exact h5.symm
  · rintro ⟨w, hw, lw, rfl⟩
    refine ⟨⟨⟨by simp, by simp; omega⟩, by simp⟩, fun c hc => ?_⟩
    rw [List.dropLast_concat] at hc
    simpa using hw c hc
/-- whether a value is a code -/
def isCD : PyData → Bool
  | .str x => icB x.cps.toList
  | _ => false
theorem S_of (x : Str) : x = SX.S x.cps.toList := by
  obtain ⟨c⟩ := x
  rfl
theorem slice_last (l : List Nat) : Txt.slice (SX.S l) none (some (-1)) = SX.S l.dropLast := by
  rw [slice_cut, cutD_toneg l (by decide), List.dropLast_eq_take]
  rfl
theorem atI_last {l : List Nat} (h : l ≠ []) : atI l (-1) = some (l.getLast h) := by
  have e := List.dropLast_concat_getLast h
  conv => lhs; rw [← e]
  exact last_at
/-- texts that are not too long -/
inductive Pl1 : PyData → Prop
  | int (i : Int) : Pl1 (.int i)
  | non : Pl1 .none
  | bl (b : Bool) : Pl1 (.bool b)
  | str (l : List Nat) : l.length ≤ 1000000 → Pl1 (tx l)
  | lst (l : List PyData) : Pl1 (.list l)
  | tup (l : List PyData) : Pl1 (.tuple l)
theorem is_code_any {d : PyData} (h : Pl1 d) {π : Pn} {E} {Q : Dv → Pn → Prop} (q : Q (.val (.bool (isCD d))) π) : wR (m_is_code [.val d] π) E Q := by
  unfold m_is_code b_is_code
  refine w_run ?_
  simp only [lit_C, lit_LR]
  cases h with
  | int i => walk_at "dl wgo"; exact q
  | non => walk_at "dl wgo"; exact q
  | bl b => walk_at "dl wgo"; exact q
  | lst l => walk_at "dl wgo"; exact q
  | tup l => walk_at "dl wgo"; exact q
  | str l hl =>
    have q : Q (.val (.bool (icB l))) π := q
    walk_at "dl wgo"
    refine o_w_lenT (by omega) ?_
    walk_at "dl wgo"
    refine w_ite (fun h1 => ?_) (fun h1 => ?_)
    · have h1 : (1 : Int) ≤ (l.length : Int) := of_decide_eq_true h1
      walk_at "dl wgo"
      refine w_ite (fun h2 => ?_) (fun h2 => ?_)
      · have h2 : ¬ (l.length : Int) ≤ 40 := by simpa using h2
        have e : icB l = false := by unfold icB; rw [decide_eq_false (by omega)]; rfl
        rw [e] at q
        walk_at "dl wgo"
        exact q
      · have h2 : (l.length : Int) ≤ 40 := by simpa using h2
        have hne : l ≠ [] := by intro z; rw [z] at h1; simp at h1
        walk_at "dl wgo"
        refine o_w_idxS (by rw [SX.S_len]; omega) (atI_last hne) ?_
        walk_at "dl wgo"
        rw [show ((⟨#[l.getLast hne]⟩ : Str) == SX.S [67]) = decide (l.getLast hne = 67) from sgn_eq _ _]
        have e0 : icB l = (decide (l.getLast hne = 67) && l.dropLast.all fun c => decide (c ∈ [76, 82])) := by
          unfold icB
          rw [decide_eq_true (by omega), List.getLast?_eq_some_getLast hne, Bool.true_and]
          congr 1
        rw [e0] at q
        refine w_ite (fun h3 => ?_) (fun h3 => ?_)
        · rw [h3, Bool.true_and] at q
          walk_at "dl wgo"
          refine o_w_slS (by omega) (slice_last l) ?_
          walk_at "dl wgo"
          exact q
        · rw [h3, Bool.false_and] at q
          exact q
    · have h1 : ¬ (1 : Int) ≤ (l.length : Int) := of_decide_eq_false h1
      have e : icB l = false := by unfold icB; rw [decide_eq_false (by omega)]; rfl
      rw [e] at q
      walk_at "dl wgo"
      exact q

set_option maxRecDepth 100000
set_option maxHeartbeats 8000000
open PySem PySem.Spec PyProof.Rows L2 DL
/-! ### admissible codes among all values -/
/-- whether a value is an admissible code -/
def isAD : PyData → Bool
  | .str x => icB x.cps.toList && gd x.cps.toList
  | _ => false
theorem isAD_tx {x : List Nat} (h : IsC x) : isAD (tx x) = gd x := by
  show (icB x && gd x) = gd x
  rw [(icB_iff x).mpr h, Bool.true_and]
theorem isAD_cases {d : PyData} (h : isAD d = true) : ∃ x, IsC x ∧ gd x = true ∧ d = tx x := by
  cases d with
  | str x =>
    have h := Bool.and_eq_true_iff.mp (show (icB x.cps.toList && gd x.cps.toList) = true from h)
    exact ⟨_, (icB_iff _).mp h.1, h.2, by rw [S_of x]⟩
  | _ => cases h
theorem is_admc_any {d : PyData} (h : Pl1 d) {π : Pn} {E} {Q : Dv → Pn → Prop} (q : Q (.val (.bool (isAD d))) π) : wR (m_is_admissible_code [.val d] π) E Q := by
  have key : isCD d = false ∨ ∃ x, IsC x ∧ d = tx x := by
    cases h with
    | str l hl =>
      cases e : icB l with
      | false => exact .inl e
      | true => exact .inr ⟨l, (icB_iff l).mp e, rfl⟩
    | _ => exact .inl rfl
  unfold m_is_admissible_code b_is_admissible_code
  refine w_run ?_
  walk_at "dl wgo"
  refine is_code_any h ?_
  rcases key with e | ⟨x, hx, rfl⟩
  · have e2 : isAD d = false := by
      cases h with
      | str l hl => show (icB l && gd l) = false; rw [show icB l = false from e]; rfl
      | _ => rfl
    rw [e2] at q
    rw [e]
    walk_at "dl wgo"
    exact q
  · rw [isAD_tx hx] at q
    have hl := hx.len
    rw [show isCD (tx x) = true from (icB_iff x).mpr hx]
    walk_at "dl wgo"
    refine first_ok hx.lt3 (by omega) ?_
    walk_at "dl wgo"
    unfold gd at q
    cases e : fg x (x.length - 1) 1 with
    | none => rw [e] at q; exact q
    | some k => rw [e] at q; exact q
theorem reqa_any {d : PyData} (h : Pl1 d) {π : Pn} {E : Str → Pn → Prop} {Q : Dv → Pn → Prop} (q : isAD d = true → Q (.val .none) π) (e : isAD d = false → E "NotAdmissible" π) : wR (m_require_admissible [.val d] π) E Q := by
  unfold m_require_admissible b_require_admissible
  refine w_run ?_
  walk_at "dl wgo"
  refine is_admc_any h ?_
  walk_at "dl wgo"
  refine w_ite (fun h => ?_) (fun h => ?_)
  · have h : isAD d = false := by simpa using h
    walk_at "dl wgo"
    exact e h
  · have h : isAD d = true := by simpa using h
    walk_at "dl wgo"
    exact q h

set_option maxRecDepth 100000
set_option maxHeartbeats 8000000
open PySem PySem.Spec PyProof.Rows L2 DL
/-! ### admissible codes as values -/
structure Ok (x : List Nat) : Prop where
  i : IsC x
  a : Adm x
theorem Ok.g {x : List Nat} (h : Ok x) : gd x = true := gd_of h.a h.i.len.1
theorem Ok.p {x : List Nat} (h : Ok x) : Pl1 (tx x) := .str _ (by have := h.i.len; omega)
theorem Ok.r {x : List Nat} (h : Ok x) : Rp (tx x) 1 1100000 := ((Rp.tx (m := 40) h.i.lt3.rp h.i.len.2).up (by decide)).le (by decide)
theorem Ok.ad {x : List Nat} (h : Ok x) : isAD (tx x) = true := by rw [isAD_tx h.i]; exact h.g
theorem req_ok {x : List Nat} (h : Ok x) {π : Pn} {E : Str → Pn → Prop} {Q : Dv → Pn → Prop} (q : Q (.val .none) π) : wR (m_require_admissible [.val (tx x)] π) E Q :=
  reqa_any h.p (fun _ => q) fun z => by rw [h.ad] at z; cases z
theorem adm_of_gd {x : List Nat} (h : gd x = true) : Adm x := by
  unfold gd at h
  rw [fg_head] at h
  have h2 : ((List.range' 1 (x.length - 1)).filter fun i => decide (0 < ord 1 (x.drop i) x)) = [] := by
    cases q : ((List.range' 1 (x.length - 1)).filter fun i => decide (0 < ord 1 (x.drop i) x)) with
    | nil => rfl
    | cons a l => rw [q] at h; cases h
  intro i hi
  by_cases i0 : i = 0
  · subst i0; rw [List.drop_zero, ord_self]; decide
  · have := List.filter_eq_nil_iff.mp h2 i (List.mem_range'_1.mpr ⟨by omega, by omega⟩)
    have : ¬ 0 < ord 1 (x.drop i) x := fun z => this (decide_eq_true z)
    omega

set_option maxRecDepth 100000
set_option maxHeartbeats 8000000
open PySem PySem.Spec PyProof.Rows L2 DL
/-! ### keys of codes: lists of ints in the order of the codes -/
def keyL : Int → List Nat → List Int
  | _, [] => []
  | s, c :: x => s * (ix c - 1) :: keyL (if c = 82 then -s else s) x
theorem keyL_lt : ∀ {x y : List Nat} {s : Int}, Cd x → Cd y → s = 1 ∨ s = -1 → (keyL s x < keyL s y ↔ ord s x y < 0)
  | [], _, _, h, _, _ => h.elim
  | _ :: _, [], _, _, h, _ => h.elim
  | a :: x, b :: y, s, hx, hy, hs => by
    have la := hx.lt3 a List.mem_cons_self
    have lb := hy.lt3 b List.mem_cons_self
    show (s * (ix a - 1) :: keyL (if a = 82 then -s else s) x < s * (ix b - 1) :: keyL (if b = 82 then -s else s) y) ↔ _
    rw [List.cons_lt_cons_iff, ord_cons]
    by_cases e : a = b
    · subst e
      rw [if_pos rfl]
      rcases hx.tail with ⟨rfl, ea⟩ | ⟨ea, cx⟩
      · rcases hy.tail with ⟨rfl, _⟩ | ⟨eb, _⟩
        · constructor
          · rintro (h | ⟨_, h⟩)
            · omega
            · exact absurd h (List.lt_irrefl _)
          · intro h; exact absurd h (by show ¬ ((0 : Int) < 0); omega)
        · omega
      · rcases hy.tail with ⟨rfl, eb⟩ | ⟨_, cy⟩
        · omega
        · have := keyL_lt cx cy (s := if a = 82 then -s else s) (by by_cases q : a = 82 <;> simp [q] <;> omega)
          rw [← this]
          constructor
          · rintro (h | ⟨_, h⟩)
            · omega
            · exact h
          · intro h; exact .inr ⟨rfl, h⟩
    · rw [if_neg e]
      have n := ix_ne la lb e
      rcases hs with rfl | rfl
      · by_cases q : ix a > ix b
        · rw [if_pos q]
          constructor
          · rintro (h | ⟨h, _⟩) <;> omega
          · intro h; omega
        · rw [if_neg q]
          constructor
          · intro; omega
          · intro; left; omega
      · by_cases q : ix a > ix b
        · rw [if_pos q]
          constructor
          · intro; omega
          · intro; left; omega
        · rw [if_neg q]
          constructor
          · rintro (h | ⟨h, _⟩) <;> omega
          · intro h; omega
theorem keyL_le {x y : List Nat} (hx : Cd x) (hy : Cd y) : keyL 1 x ≤ keyL 1 y ↔ ord 1 x y ≤ 0 := by
  have h1 := keyL_lt hy hx (s := 1) (.inl rfl)
  have h2 := ord_anti (s := 1) hx.lt3 hy.lt3
  constructor
  · intro h
    have : ¬ keyL 1 y < keyL 1 x := h
    rw [h1] at this
    omega
  · intro h
    show ¬ keyL 1 y < keyL 1 x
    rw [h1]
    omega
/-! ### the points in the order of their tails -/
def rowsOf (x : List Nat) : List (List Int) := (List.range x.length).map fun i => keyL 1 (x.drop i)
def ascOf (x : List Nat) : List Nat := (((List.range x.length).zip (rowsOf x)).mergeSort fun p q => decide (p.2 ≤ q.2)).map (·.1)
def posf (x : List Nat) (i : Nat) : Nat := ((List.range x.length).filter fun j => decide (ord 1 (x.drop j) (x.drop i) < 0)).length
theorem sortRows_rows (x : List Nat) : sortRows (rowsOf x) = (ascOf x).map fun i : Nat => (i : Int) := by
  have e : (rowsOf x).length = x.length := by unfold rowsOf; simp
  unfold sortRows ascOf
  rw [e, List.map_map]; rfl
theorem zip_self_map {α β : Type} (f : α → β) : ∀ l : List α, l.zip (l.map f) = l.map fun a => (a, f a)
  | [] => rfl
  | a :: l => by rw [List.map_cons, List.zip_cons_cons, zip_self_map f l]; rfl
theorem asc_perm (x : List Nat) : (ascOf x).Perm (List.range x.length) := by
  unfold ascOf rowsOf
  have h := (List.mergeSort_perm ((List.range x.length).zip ((List.range x.length).map fun i => keyL 1 (x.drop i))) (fun p q => decide (p.2 ≤ q.2))).map (·.1)
  refine h.trans ?_
  rw [zip_self_map, List.map_map]
  have e : ((fun p : Nat × List Int => p.1) ∘ fun a => (a, keyL 1 (List.drop a x))) = id := rfl
  rw [e, List.map_id]
theorem asc_mem {x : List Nat} {i : Nat} : i ∈ ascOf x ↔ i < x.length := by rw [(asc_perm x).mem_iff, List.mem_range]
theorem asc_len (x : List Nat) : (ascOf x).length = x.length := by rw [(asc_perm x).length_eq, List.length_range]
theorem asc_nodup (x : List Nat) : (ascOf x).Nodup := (asc_perm x).nodup_iff.mpr List.nodup_range
theorem asc_sorted {x : List Nat} (hx : Cd x) : (ascOf x).Pairwise fun a b => ord 1 (x.drop a) (x.drop b) < 0 := by
  have h1 : (((List.range x.length).zip (rowsOf x)).mergeSort fun p q => decide (p.2 ≤ q.2)).Pairwise fun p q => decide (p.2 ≤ q.2) = true :=
    List.pairwise_mergeSort (le := fun (p q : Nat × List Int) => decide (p.2 ≤ q.2)) (fun a b c h1 h2 => decide_eq_true (List.le_trans (of_decide_eq_true h1) (of_decide_eq_true h2))) (fun a b => by
      rcases List.le_total a.2 b.2 with h | h
      · simp [h]
      · simp [h]) _
  have h2 : ∀ p ∈ (((List.range x.length).zip (rowsOf x)).mergeSort fun p q => decide (p.2 ≤ q.2)), p.2 = keyL 1 (x.drop p.1) ∧ p.1 < x.length := fun p hp => by
    have hp := (List.mergeSort_perm _ _).mem_iff.mp hp
    unfold rowsOf at hp
    rw [zip_self_map] at hp
    obtain ⟨i, hi, rfl⟩ := List.mem_map.mp hp
    exact ⟨rfl, List.mem_range.mp hi⟩
  have nd := asc_nodup x
  unfold ascOf at nd ⊢
  generalize (((List.range x.length).zip (rowsOf x)).mergeSort fun p q => decide (p.2 ≤ q.2)) = l at *
  induction l with
  | nil => exact .nil
  | cons p l ih =>
    rw [List.map_cons] at nd ⊢
    rw [List.nodup_cons] at nd
    rw [List.pairwise_cons] at h1
    refine .cons (fun b hb => ?_) (ih h1.2 (fun q hq => h2 q (List.mem_cons_of_mem _ hq)) nd.2)
    obtain ⟨q, hq, rfl⟩ := List.mem_map.mp hb
    obtain ⟨e1, l1⟩ := h2 p List.mem_cons_self
    obtain ⟨e2, l2⟩ := h2 q (List.mem_cons_of_mem _ hq)
    have c1 := hx.drop l1
    have c2 := hx.drop l2
    have h3 := of_decide_eq_true (h1.1 q hq)
    rw [e1, e2, keyL_le c1 c2] at h3
    have ne : ord 1 (x.drop p.1) (x.drop q.1) ≠ 0 := fun z => by
      have := congrArg List.length (ord_zero c1 c2 (by decide) z)
      rw [List.length_drop, List.length_drop] at this
      have e : p.1 = q.1 := by omega
      exact nd.1 (e ▸ hb)
    omega
theorem asc_pos {x : List Nat} (hx : Cd x) {k i : Nat} (h : (ascOf x)[k]? = some i) : posf x i = k := by
  have hk : k < (ascOf x).length := (List.getElem?_eq_some_iff.mp h).1
  have hp := (asc_perm x).filter fun j => decide (ord 1 (x.drop j) (x.drop i) < 0)
  unfold posf
  rw [← hp.length_eq]
  have hs := asc_sorted hx
  have e : ascOf x = (ascOf x).take k ++ i :: (ascOf x).drop (k + 1) := by
    have e1 : (ascOf x).drop k = i :: (ascOf x).drop (k + 1) := Srt.drop_at _ _ _ h
    rw [← e1, List.take_append_drop]
  rw [e] at hs
  rw [List.pairwise_append, List.pairwise_cons] at hs
  obtain ⟨_, ⟨h2, _⟩, h3⟩ := hs
  conv => lhs; rw [e]
  have all3 : ∀ c, c ∈ ascOf x → Cd (x.drop c) := fun c hc => hx.drop (asc_mem.mp hc)
  have hi := all3 i (List.mem_of_getElem? h)
  rw [List.filter_append, List.filter_cons, if_neg (by rw [ord_self]; decide), List.length_append]
  have z1 : (((ascOf x).take k).filter fun j => decide (ord 1 (x.drop j) (x.drop i) < 0)) = (ascOf x).take k := List.filter_eq_self.mpr fun j hj => decide_eq_true (h3 j hj i List.mem_cons_self)
  have z2 : (((ascOf x).drop (k + 1)).filter fun j => decide (ord 1 (x.drop j) (x.drop i) < 0)) = [] := List.filter_eq_nil_iff.mpr fun j hj => by
    have q1 := h2 j hj
    have q2 := ord_anti (s := 1) hi.lt3 (all3 j (List.mem_of_mem_drop hj)).lt3
    simp only [decide_eq_true_eq]; omega
  rw [z1, z2, List.length_take]
  simp; omega
theorem asc_at {x : List Nat} (hx : Cd x) {i : Nat} (hi : i < x.length) : posf x i < x.length ∧ (ascOf x)[posf x i]? = some i := by
  obtain ⟨k, hk, e⟩ := List.getElem_of_mem (asc_mem.mpr hi)
  have e2 : (ascOf x)[k]? = some i := by rw [List.getElem?_eq_getElem hk, e]
  rw [asc_pos hx e2]
  exact ⟨by rw [← asc_len x]; exact hk, e2⟩

set_option maxRecDepth 100000
set_option maxHeartbeats 8000000
open PySem PySem.Spec PyProof.Rows L2 DL
/-! ### the keys, and the points in their order -/
theorem order_key_ok {x : List Nat} (hx : Lt3 x) (hl : x.length ≤ 1000000) {π : Pn} {E} {Q : Dv → Pn → Prop} (q : Q (.val (.list ((keyL 1 x).map PyData.int))) π) : wR (m_order_key [.val (tx x)] π) E Q := by
  unfold m_order_key b_order_key
  refine w_run ?_
  simp only [lit_LCR, lit_R]
  walk_at "dl wgo"
  refine w_go (I := fun rest ρ π' => ∃ u s acc e3, rest = DL.signs (SX.S u) ∧ ρ = [.val (.val (tx x)), .own acc, .val (.val (.int s)), e3] ∧ π' = π ∧ Lt3 u ∧ (s = 1 ∨ s = -1) ∧ acc.length + u.length ≤ 1000000 ∧ acc ++ (keyL s u).map PyData.int = (keyL 1 x).map PyData.int) ?_ ?_ ⟨x, 1, [], _, rfl, rfl, rfl, hx, .inl rfl, by simpa using hl, rfl⟩
  · rintro d r ρ π' ⟨u, s, acc, e3, hr, rfl, rfl, hu, hs, hl, ha⟩
    match u, hr with
    | [], hr => cases hr
    | a :: u, hr =>
      rw [signs_S, List.map_cons] at hr
      cases hr
      have la := hu a List.mem_cons_self
      simp only [List.length_cons] at hl
      walk_at "dl wgo"
      refine w_append rfl (by omega) ?_
      walk_at "dl wgo"
      refine index_ok la ?_
      walk_at "dl wgo"
      refine o_w_mulI (by rcases hs with rfl | rfl <;> decide) (by rcases la with rfl | rfl | rfl <;> decide) ?_
      walk_at "dl wgo"
      rw [sgn_eq]
      have ha2 : (acc ++ [PyData.int (s * (ix a - 1))]) ++ (keyL (if a = 82 then -s else s) u).map PyData.int = (keyL 1 x).map PyData.int := by
        rw [← ha, List.append_assoc]; rfl
      have hu' : Lt3 u := fun c h => hu c (List.mem_cons_of_mem _ h)
      refine w_ite (fun h => ?_) (fun h => ?_)
      · rw [if_pos (of_decide_eq_true h)] at ha2
        walk_at "dl wgo"
        exact ⟨u, -s, _, _, rfl, rfl, rfl, hu', by omega, by simp; omega, ha2⟩
      · rw [if_neg (of_decide_eq_false h)] at ha2
        walk_at "dl wgo"
        exact ⟨u, s, _, _, rfl, rfl, rfl, hu', hs, by simp; omega, ha2⟩
  · rintro ρ π' ⟨u, s, acc, e3, hr, rfl, rfl, hu, hs, hl, ha⟩
    match u, hr with
    | a :: u, hr => cases hr
    | [], hr =>
      have ha : acc = (keyL 1 x).map PyData.int := by rw [← ha]; show acc = acc ++ []; simp
      subst ha
      walk_at "dl wgo"
      exact q
theorem wR_eq {α : Type} {r : Res α} {a : α} {π : Pn} (h : wR r NE fun b π' => b = a ∧ π' = π) : r = .ok a π := by
  cases r with
  | bad => exact h.elim
  | exn n p => exact h.elim
  | ok b p => obtain ⟨rfl, rfl⟩ := h; rfl
theorem asc_ok {x : List Nat} (hx : Cd x) (hl : x.length ≤ 1000000) {π : Pn} {E} {Q : Dv → Pn → Prop} (q : Q (.val (.list ((ascOf x).map fun i : Nat => PyData.int i))) π) : wR (m_ascending_points [.val (tx x)] π) E Q := by
  unfold m_ascending_points b_ascending_points
  refine w_run ?_
  walk_at "dl wgo"
  refine w_sortK (fun i => keyL 1 (x.drop i.toNat)) ?_
  walk_at "dl wgo"
  refine o_w_lenT (by omega) ?_
  refine ⟨x.length, rfl, by omega, fun i hi => ?_, ?_⟩
  · refine wR_eq ?_
    walk_at "dl wgo"
    refine o_w_slS (by omega) (SX.slice_from (by omega)) ?_
    walk_at "dl wgo"
    rw [Int.toNat_natCast]
    exact order_key_ok (fun c hc => hx.lt3 c (List.mem_of_mem_drop hc)) (by rw [List.length_drop]; omega) ⟨rfl, rfl⟩
  · have e : ((List.range x.length).map fun i : Nat => keyL 1 (x.drop ((i : Int)).toNat)) = rowsOf x := by
      unfold rowsOf
      exact List.map_congr_left fun i _ => by rw [Int.toNat_natCast]
    rw [e, sortRows_rows, List.map_map]
    walk_at "dl wgo"
    exact q

set_option maxRecDepth 100000
set_option maxHeartbeats 8000000
open PySem PySem.Spec PyProof.Rows L2 DL
/-! ### positions and permutation -/
def posL (x : List Nat) : List Nat := (List.range x.length).map (posf x)
def ptAt (x : List Nat) (p : Nat) : Nat := (ascOf x).getD p 0
def permL (x : List Nat) : List Nat := (List.range x.length).map fun p => posf x ((ptAt x p + 1) % x.length)
theorem pt_pos {x : List Nat} (hx : Cd x) {i : Nat} (hi : i < x.length) : ptAt x (posf x i) = i := by
  unfold ptAt
  rw [List.getD_eq_getElem?_getD, (asc_at hx hi).2]; rfl
theorem pos_lt {x : List Nat} (hx : Cd x) {i : Nat} (hi : i < x.length) : posf x i < x.length := (asc_at hx hi).1
theorem pos_pt {x : List Nat} (hx : Cd x) {p : Nat} (hp : p < x.length) : ptAt x p < x.length ∧ posf x (ptAt x p) = p := by
  have hl := asc_len x
  have e : (ascOf x)[p]? = some ((ascOf x)[p]'(by omega)) := List.getElem?_eq_getElem (by omega)
  have e2 : ptAt x p = (ascOf x)[p]'(by omega) := by unfold ptAt; rw [List.getD_eq_getElem?_getD, e]; rfl
  rw [e2]
  exact ⟨asc_mem.mp (List.getElem_mem _), asc_pos hx e⟩
theorem set_range {n i : Nat} {f g : Nat → PyData} {d : PyData} (h1 : i < n → g i = d) (h2 : ∀ j, j < n → j ≠ i → g j = f j) : ((List.range n).map f).set i d = (List.range n).map g := by
  refine List.ext_getElem (by simp) fun j a b => ?_
  have hj : j < n := by simpa using b
  rw [List.getElem_set]
  by_cases h : i = j
  · subst h
    rw [if_pos rfl]
    simp [h1 hj]
  · rw [if_neg h]
    simp [h2 j hj (Ne.symm h)]
theorem zeros_map (n : Nat) : (List.replicate n [PyData.int 0]).flatten = (List.range n).map fun _ => PyData.int 0 := by
  refine List.ext_getElem (by simp) fun j a b => ?_
  simp
theorem enumL_at {ds : List PyData} {k : Nat} {d : PyData} (h : ds[k]? = some d) : (enumL ds)[k]? = some (.tuple [.int (k : Nat), d]) := by
  unfold enumL
  rw [List.getElem?_map, List.getElem?_zipIdx, h]
  simp
theorem enumL_len (ds : List PyData) : (enumL ds).length = ds.length := by simp [enumL]
theorem zipL_at {ds es : List PyData} {k : Nat} {d e : PyData} (h1 : ds[k]? = some d) (h2 : es[k]? = some e) : (zipL ds es)[k]? = some (.tuple [d, e]) := by
  unfold zipL
  have e3 : (ds.zip es)[k]? = some (d, e) := List.getElem?_zip_eq_some.mpr ⟨h1, h2⟩
  rw [List.getElem?_map, e3]
  rfl
theorem drop_cons_at {α : Type} {l : List α} {k : Nat} {a d : α} {r : List α} (h : l[k]? = some a) (e : d :: r = l.drop k) : d = a ∧ r = l.drop (k + 1) := by
  rw [Srt.drop_at l k a h] at e
  cases e
  exact ⟨rfl, rfl⟩
theorem drop_cons_lt {α : Type} {l : List α} {k : Nat} {d : α} {r : List α} (e : d :: r = l.drop k) : k < l.length := by
  rcases Nat.lt_or_ge k l.length with h | h
  · exact h
  · rw [List.drop_eq_nil_of_le h] at e; cases e
theorem drop_nil_ge {α : Type} {l : List α} {k : Nat} (e : [] = l.drop k) : l.length ≤ k := by
  have := congrArg List.length e
  rw [List.length_drop] at this
  simp at this; omega
def stP (x : List Nat) (k : Nat) : List PyData := (List.range x.length).map fun i => PyData.int ((if posf x i < k then posf x i else 0 : Nat) : Int)
theorem ix_nat {n i : Nat} (h : i < n) : ixN n (i : Int) = some i := by
  unfold ixN
  rw [if_pos (by omega), if_pos (by omega)]
  simp
theorem positions_ok {x : List Nat} (hx : Ok x) {π : Pn} {E} {Q : Dv → Pn → Prop} (q : Q (.val (.tuple ((posL x).map fun i : Nat => PyData.int i))) π) : wR (m_positions [.val (tx x)] π) E Q := by
  have l := hx.i.len
  have hc := hx.i.cd
  unfold m_positions b_positions
  refine w_run ?_
  walk_at "dl wgo"
  refine req_ok hx ?_
  walk_at "dl wgo"
  refine w_lMul ?_
  walk_at "dl wgo"
  refine o_w_lenT (by omega) ?_
  refine ⟨_, _, rfl, rfl, ⟨by omega, by omega, by simp; omega⟩, ?_⟩
  have e0 : ((List.range x.length).map fun _ => PyData.int 0) = stP x 0 := by unfold stP; simp
  rw [Int.toNat_natCast, zeros_map, e0]
  walk_at "dl wgo"
  refine w_enumXL ?_
  walk_at "dl wgo"
  refine asc_ok hc (by omega) ?_
  refine ⟨_, .inl rfl, ?_⟩
  refine w_go (I := fun rest ρ π' => ∃ k e2 e3, rest = (enumL ((ascOf x).map fun i : Nat => PyData.int i)).drop k ∧ ρ = [.val (.val (tx x)), .own (stP x k), e2, e3] ∧ π' = π) ?_ ?_ ⟨0, _, _, rfl, rfl, rfl⟩
  · rintro d r ρ π' ⟨k, e2, e3, hr, rfl, rfl⟩
    have hk := drop_cons_lt hr
    rw [enumL_len, List.length_map, asc_len] at hk
    have ek : (ascOf x)[k]? = some ((ascOf x)[k]'(by rw [asc_len]; exact hk)) := List.getElem?_eq_getElem _
    generalize (ascOf x)[k]'(by rw [asc_len]; exact hk) = i0 at ek
    have hp := asc_pos hc ek
    have hi := asc_mem.mp (List.mem_of_getElem? ek)
    obtain ⟨rfl, rfl⟩ := drop_cons_at (enumL_at (by rw [List.getElem?_map, ek]; rfl)) hr
    refine g2_ok ?_
    walk_at "dl wgo"
    refine ⟨_, _, i0, rfl, rfl, ix_nat (by unfold stP; simpa using hi), ?_⟩
    have es : (stP x k).set i0 (PyData.int (k : Int)) = stP x (k + 1) := by
      unfold stP
      refine set_range (fun _ => ?_) fun j hj hne => ?_
      · show PyData.int _ = _
        rw [hp, if_pos (Nat.lt_succ_self k)]
      · show PyData.int _ = PyData.int _
        have : posf x j ≠ k := fun z => hne (by rw [← pt_pos hc hj, z, ← hp, pt_pos hc hi])
        by_cases h : posf x j < k
        · rw [if_pos h, if_pos (by omega)]
        · rw [if_neg h, if_neg (by omega)]
    rw [es]
    exact ⟨k + 1, _, _, rfl, rfl, rfl⟩
  · rintro ρ π' ⟨k, e2, e3, hr, rfl, rfl⟩
    have hk := drop_nil_ge hr
    rw [enumL_len, List.length_map, asc_len] at hk
    walk_at "dl wgo"
    have e : stP x k = (posL x).map fun i : Nat => PyData.int i := by
      unfold stP posL
      rw [List.map_map]
      refine List.map_congr_left fun i hi => ?_
      have := pos_lt hc (List.mem_range.mp hi)
      show PyData.int _ = PyData.int _
      rw [if_pos (by omega)]
    rw [e]
    exact q

set_option maxRecDepth 100000
set_option maxHeartbeats 8000000
open PySem PySem.Spec PyProof.Rows L2 DL
def tuN (l : List Nat) : PyData := .tuple (l.map fun i : Nat => PyData.int i)
theorem cutD_from1 {α : Type} (xs : List α) : DL.cutD xs (some 1) none = xs.drop 1 := by
  unfold DL.cutD
  have e : HT.sIx xs.length 0 (some 1) = min 1 xs.length := HT.sIx_nat _ _ 1
  rw [e, HT.sIx_none]
  rcases xs with _ | ⟨a, l⟩
  · rfl
  · simp
theorem rot_map {n : Nat} (f : Nat → Nat) (hn : 1 ≤ n) : ((List.range n).map f).drop 1 ++ ((List.range n).map f).take 1 = (List.range n).map fun i => f ((i + 1) % n) := by
  refine List.ext_getElem (by simp; omega) fun j a b => ?_
  have hj : j < n := by simpa using b
  rw [List.getElem_append]
  split
  · rename_i h
    simp only [List.length_drop, List.length_map, List.length_range] at h
    simp only [List.getElem_drop, List.getElem_map, List.getElem_range]
    rw [Nat.mod_eq_of_lt (by omega), Nat.add_comm]
  · rename_i h
    simp only [List.length_drop, List.length_map, List.length_range] at h
    have e : j + 1 = n := by omega
    simp only [List.getElem_take, List.getElem_map, List.getElem_range, List.length_drop, List.length_map, List.length_range]
    rw [e, Nat.mod_self]
    congr 1; omega
def stM (x : List Nat) (k : Nat) : List PyData := (List.range x.length).map fun p => PyData.int ((if ptAt x p < k then posf x ((ptAt x p + 1) % x.length) else 0 : Nat) : Int)
theorem stM_step {x : List Nat} (hc : Cd x) {k : Nat} (hk : k < x.length) : (stM x k).set (posf x k) (PyData.int (posf x ((k + 1) % x.length) : Nat)) = stM x (k + 1) := by
  unfold stM
  refine set_range (fun _ => ?_) fun j hj hne => ?_
  · show PyData.int _ = _
    rw [pt_pos hc hk, if_pos (Nat.lt_succ_self k)]
  · show PyData.int _ = PyData.int _
    have : ptAt x j ≠ k := fun z => hne (by rw [← z, (pos_pt hc hj).2])
    by_cases h : ptAt x j < k
    · rw [if_pos h, if_pos (by omega)]
    · rw [if_neg h, if_neg (by omega)]
theorem stM_end {x : List Nat} (hc : Cd x) {k : Nat} (hk : x.length ≤ k) : stM x k = (permL x).map fun i : Nat => PyData.int i := by
  unfold stM permL
  rw [List.map_map]
  refine List.map_congr_left fun p hp => ?_
  have := (pos_pt hc (List.mem_range.mp hp)).1
  show PyData.int _ = PyData.int _
  rw [if_pos (by omega)]
theorem stM_zero (x : List Nat) : ((List.range x.length).map fun _ => PyData.int 0) = stM x 0 := by unfold stM; simp
theorem posL_len (x : List Nat) : (posL x).length = x.length := by unfold posL; simp
theorem permL_len (x : List Nat) : (permL x).length = x.length := by unfold permL; simp
theorem posL_at {x : List Nat} {k : Nat} (hk : k < x.length) : ((posL x).map fun i : Nat => PyData.int i)[k]? = some (PyData.int (posf x k : Nat)) := by
  unfold posL
  simp [hk]
theorem permutation_ok {x : List Nat} (hx : Ok x) {π : Pn} {E} {Q : Dv → Pn → Prop} (q : Q (.val (tuN (permL x))) π) : wR (m_permutation [.val (tx x)] π) E Q := by
  have l := hx.i.len
  have hc := hx.i.cd
  unfold m_permutation b_permutation
  refine w_run ?_
  walk_at "dl wgo"
  refine positions_ok hx ?_
  walk_at "dl wgo"
  refine w_lMul ?_
  walk_at "dl wgo"
  refine ⟨⟨by simp [posL_len] <;> omega, by simp [posL_len] <;> omega, by simp [posL_len] <;> omega⟩, ?_⟩
  rw [Int.toNat_natCast, List.length_map, posL_len, zeros_map, stM_zero]
  walk_at "dl wgo"
  refine w_izipX ?_
  walk_at "dl wgo"
  have er : ((posL x).map fun i : Nat => PyData.int i).drop 1 ++ ((posL x).map fun i : Nat => PyData.int i).take 1 = ((List.range x.length).map fun i => posf x ((i + 1) % x.length)).map fun i : Nat => PyData.int i := by
    rw [← List.map_drop, ← List.map_take, ← List.map_append]
    unfold posL
    rw [rot_map _ (by omega)]
  refine o_w_some (.val (.tuple (((List.range x.length).map fun i => posf x ((i + 1) % x.length)).map fun i : Nat => PyData.int i))) (by
    show dAdd (.val (.tuple (DL.cutD _ (some 1) none))) (.val (.tuple (DL.cutD _ none (some ((1 : Nat) : Int))))) = _
    rw [cutD_from1, cutD_to]
    show (if _ then some (Dv.val (.tuple (_ ++ _))) else none) = _
    rw [if_pos (by simp [posL_len] <;> omega), er]) ?_
  walk_at "dl wgo"
  refine ⟨_, _, .inr rfl, ?_⟩
  refine w_go (I := fun rest ρ π' => ∃ k e3 e4, rest = (zipL ((posL x).map fun i : Nat => PyData.int i) (((List.range x.length).map fun i => posf x ((i + 1) % x.length)).map fun i : Nat => PyData.int i)).drop k ∧ ρ = [.val (.val (tx x)), .val (.val (.tuple ((posL x).map fun i : Nat => PyData.int i))), .own (stM x k), e3, e4] ∧ π' = π) ?_ ?_ ⟨0, _, _, rfl, rfl, rfl⟩
  · rintro d r ρ π' ⟨k, e3, e4, hr, rfl, rfl⟩
    have hk := drop_cons_lt hr
    rw [zipL_len, List.length_map, List.length_map, List.length_map, posL_len, List.length_range, Nat.min_self] at hk
    obtain ⟨rfl, rfl⟩ := drop_cons_at (zipL_at (posL_at hk) (e := PyData.int (posf x ((k + 1) % x.length) : Nat)) (by simp [hk])) hr
    refine g2_ok ?_
    walk_at "dl wgo"
    refine ⟨_, _, posf x k, rfl, rfl, ix_nat (by unfold stM; simpa using pos_lt hc hk), ?_⟩
    rw [stM_step hc hk]
    exact ⟨k + 1, _, _, rfl, rfl, rfl⟩
  · rintro ρ π' ⟨k, e3, e4, hr, rfl, rfl⟩
    have hk := drop_nil_ge hr
    rw [zipL_len, List.length_map, List.length_map, List.length_map, posL_len, List.length_range, Nat.min_self] at hk
    walk_at "dl wgo"
    rw [stM_end hc hk]
    exact q

set_option maxRecDepth 100000
set_option maxHeartbeats 8000000
open PySem PySem.Spec PyProof.Rows L2 DL
/-! ### comprehensions over lists whose items stand for something -/
theorem w_cfilt {α : Type} {L : List α} {enc g : α → PyData} {p : α → Bool} {tg : PyData → List Sv → Option (List Sv)} {c : SE Bool} {f : SE Dv} {ρ : List Sv} {π : Pn} {E : Str → Pn → Prop} {Q : List PyData → Pn → Prop}
    (step : ∀ a ∈ L, wO (tg (enc a) ρ) fun ρ1 => wR (c ρ1 π) NE fun b π' => wIf b (wR (f ρ1 π') NE fun v π'' => p a = true ∧ v = .val (g a) ∧ π'' = π) (p a = false ∧ π' = π)) (q : Q ((L.filter p).map g) π) : wR (compGo tg c f ρ (L.map enc) π) E Q := by
  refine w_cgo0 (J := fun rest acc π' => ∃ k : Nat, rest = (L.drop k).map enc ∧ acc = ((L.take k).filter p).map g ∧ π' = π) ?_ ?_ ⟨0, rfl, rfl, rfl⟩
  · rintro d r acc π' ⟨k, hr, rfl, rfl⟩
    have hk : k < L.length := by
      rcases Nat.lt_or_ge k L.length with h | h
      · exact h
      · rw [List.drop_eq_nil_of_le h] at hr; cases hr
    rw [List.drop_eq_getElem_cons hk, List.map_cons] at hr
    cases hr
    have et : L.take (k + 1) = L.take k ++ [L[k]] := by rw [List.take_succ_eq_append_getElem hk]
    have s := step L[k] (List.getElem_mem hk)
    cases ht : tg (enc L[k]) ρ with
    | none => rw [ht] at s; exact s.elim
    | some ρ1 =>
      rw [ht] at s
      refine wR_mono s ?_ fun _ _ h => h
      intro b π1 h
      cases b with
      | true =>
        refine wR_mono h ?_ fun _ _ h => h
        rintro v π2 ⟨hp, rfl, rfl⟩
        refine ⟨_, rfl, k + 1, rfl, ?_, rfl⟩
        rw [et, List.filter_append, List.map_append]
        simp [hp]
      | false =>
        obtain ⟨hp, rfl⟩ := h
        refine ⟨k + 1, rfl, ?_, rfl⟩
        rw [et, List.filter_append, List.map_append]
        simp [hp]
  · rintro acc π' ⟨k, hr, rfl, rfl⟩
    have hk : L.length ≤ k := by
      have := congrArg List.length hr
      simp at this; omega
    rw [List.take_of_length_le hk]
    exact q
theorem w_cmap {α : Type} {L : List α} {enc g : α → PyData} {tg : PyData → List Sv → Option (List Sv)} {c : SE Bool} {f : SE Dv} {ρ : List Sv} {π : Pn} {E : Str → Pn → Prop} {Q : List PyData → Pn → Prop}
    (step : ∀ a ∈ L, wO (tg (enc a) ρ) fun ρ1 => wR (c ρ1 π) NE fun b π' => wIf b (wR (f ρ1 π') NE fun v π'' => v = .val (g a) ∧ π'' = π) False) (q : Q (L.map g) π) : wR (compGo tg c f ρ (L.map enc) π) E Q := by
  refine w_cfilt (p := fun _ => true) (g := g) (fun a ha => ?_) (by rw [List.filter_eq_self.mpr fun _ _ => rfl]; exact q)
  have s := step a ha
  cases ht : tg (enc a) ρ with
  | none => rw [ht] at s; exact s.elim
  | some ρ1 =>
    rw [ht] at s
    refine wR_mono s ?_ fun _ _ h => h
    intro b π1 h
    cases b with
    | true => exact wR_mono h (fun v π2 h => ⟨rfl, h⟩) fun _ _ h => h
    | false => exact h.elim

set_option maxRecDepth 100000
set_option maxHeartbeats 8000000
open PySem PySem.Spec PyProof.Rows L2 DL
/-! ### tails of a product: first by the place in the first code, then by the second code -/
theorem fl_C (o : Bool) : fl o 67 = 67 := by cases o <;> rfl
theorem fl_LR {o : Bool} {c : Nat} (h : c = 76 ∨ c = 82) : fl o c = 76 ∨ fl o c = 82 := by
  rcases h with rfl | rfl <;> cases o <;> simp [fl, sw]
theorem tms_dropw {w : List Nat} {c : Nat} {q : List Nat} {r : Nat} (hr : r ≤ w.length) : (tms w (c :: q)).drop r = w.drop r ++ (fl (od w) c :: tms w q) := by
  rw [tms_cons, List.drop_append_of_le_length hr]
/-- one word before the other, or apart at a letter -/
theorem pre_or : ∀ (u v : List Nat), v.length < u.length → (∃ c t, u = v ++ c :: t) ∨ ∃ h c1 t1 c2 t2, u = h ++ c1 :: t1 ∧ v = h ++ c2 :: t2 ∧ c1 ≠ c2
  | [], _, h => absurd h (Nat.not_lt_zero _)
  | a :: u, [], _ => .inl ⟨a, u, rfl⟩
  | a :: u, b :: v, h => by
    by_cases e : a = b
    · subst e
      rcases pre_or u v (by simpa using h) with ⟨c, t, e⟩ | ⟨g, c1, t1, c2, t2, e1, e2, n⟩
      · exact .inl ⟨c, t, by rw [e]; rfl⟩
      · exact .inr ⟨a :: g, c1, t1, c2, t2, by rw [e1]; rfl, by rw [e2]; rfl, n⟩
    · exact .inr ⟨[], a, u, b, v, rfl, rfl, e⟩
theorem ord_sg {b : Bool} {x y : List Nat} : ord (sg b 1) x y = if b then - ord 1 x y else ord 1 x y := by
  cases b
  · rfl
  · exact ord_neg x y 1
theorem blk {w : List Nat} (hw : LR w) (hA : Adm (w ++ [67])) {q a : List Nat} (hq : Cd q) (ha : Cd a) {r r' : Nat} (h1 : r < r') (h2 : r' ≤ w.length) :
    ord 1 ((tms w q).drop r) ((tms w a).drop r') = ord 1 ((w ++ [67]).drop r) ((w ++ [67]).drop r') := by
  match q, a, hq, ha with
  | q0 :: q, a0 :: a, hq, ha =>
    rw [tms_dropw (by omega), tms_dropw h2, List.drop_append_of_le_length (by omega), List.drop_append_of_le_length h2]
    have lu : (w.drop r').length < (w.drop r).length := by rw [List.length_drop, List.length_drop]; omega
    rcases pre_or _ _ lu with ⟨c, t, e⟩ | ⟨g, c1, t1, c2, t2, e1, e2, n⟩
    · have et : t = w.drop (r + (w.length - r') + 1) := by
        have := congrArg (List.drop (w.length - r' + 1)) e
        rw [List.drop_drop] at this
        rw [show r + (w.length - r') + 1 = r + (w.length - r' + 1) by omega, this]
        rw [show w.length - r' + 1 = (w.drop r').length + 1 by rw [List.length_drop]]
        rw [List.drop_append]
        simp <;> omega
      have hc : c = 76 ∨ c = 82 := hw c (List.mem_of_mem_drop (i := r) (by rw [e]; simp))
      rw [e, List.append_assoc, List.append_assoc, ord_app, ord_app, List.cons_append, List.cons_append, ord_cons, ord_cons, if_neg (show ¬ c = 67 by rcases hc with rfl | rfl <;> decide)]
      rcases ha.tail with ⟨z, y⟩ | ⟨y, ca⟩
      · subst y
        rw [fl_C, if_neg (show ¬ c = 67 by rcases hc with rfl | rfl <;> decide)]
      · have hy := fl_LR (o := od w) y
        generalize fl (od w) a0 = y0 at *
        by_cases ey : c = y0
        · subst ey
          rw [if_pos rfl]
          have hr2 : r + (w.length - r') + 1 ≤ w.length := by omega
          have inn := inner hw hA _ (q0 :: q) a (Nat.le_refl _) hq ca (r + (w.length - r') + 1) (by omega) hr2
          rw [tms_dropw hr2, ← et] at inn
          generalize t ++ fl (od w) q0 :: tms w q = U at *
          have iv := ord_val (x := U) (y := tms w a) (s := 1) (.inl rfl)
          have i1 : ord 1 U (tms w a) = -1 := by omega
          have i2 : ord (-1) U (tms w a) = 1 := by rw [ord_neg, i1]; rfl
          cases od (w.drop r') <;> rcases hc with rfl | rfl
          · show ord 1 U (tms w a) = _
            rw [i1]; rfl
          · show ord (-1) U (tms w a) = _
            rw [i2]; rfl
          · show ord (-1) U (tms w a) = _
            rw [i2]; rfl
          · show ord (- -1) U (tms w a) = _
            rw [show (- -1 : Int) = 1 from rfl, i1]; rfl
        · rw [if_neg ey]
          rcases hc with rfl | rfl <;> rcases hy with rfl | rfl <;> first | exact absurd rfl ey | rfl
    · rw [e1, e2, List.append_assoc, List.append_assoc, List.append_assoc, List.append_assoc, ord_app, ord_app]
      show ord _ (c1 :: _) (c2 :: _) = ord _ (c1 :: _) (c2 :: _)
      rw [ord_cons, ord_cons, if_neg n, if_neg n]
/-- within one place: as the second code, turned round behind an odd number of R -/
theorem blk_same {w : List Nat} {q a : List Nat} (hq : Cd q) (ha : Cd a) {r : Nat} (hr : r ≤ w.length) :
    ord 1 ((tms w q).drop r) ((tms w a).drop r) = if od (w.take r) then - ord 1 q a else ord 1 q a := by
  match q, a, hq, ha with
  | q0 :: q, a0 :: a, hq, ha =>
    have e := ord_tms (w := w) 1 hq ha
    have d : ∀ (c : Nat) (l : List Nat), tms w (c :: l) = w.take r ++ (tms w (c :: l)).drop r := fun c l => by
      rw [tms_dropw hr, ← List.append_assoc, List.take_append_drop, tms_cons]
    rw [d q0 q, d a0 a, ord_app, ord_sg] at e
    revert e
    cases od (w.take r)
    · intro e; exact e
    · intro e
      show ord 1 _ _ = - ord 1 _ _
      have e : - ord 1 ((tms w (q0 :: q)).drop r) ((tms w (a0 :: a)).drop r) = ord 1 (q0 :: q) (a0 :: a) := e
      omega

set_option maxRecDepth 100000
set_option maxHeartbeats 8000000
open PySem PySem.Spec PyProof.Rows L2 DL
theorem pos_lt_iff {x : List Nat} (hx : Cd x) {i j : Nat} (hi : i < x.length) (hj : j < x.length) : posf x i < posf x j ↔ ord 1 (x.drop i) (x.drop j) < 0 := by
  have key : ∀ {i j : Nat}, i < x.length → j < x.length → posf x i < posf x j → ord 1 (x.drop i) (x.drop j) < 0 := by
    intro i j hi hj h
    obtain ⟨a1, a2⟩ := asc_at hx hi
    obtain ⟨b1, b2⟩ := asc_at hx hj
    have s := List.pairwise_iff_getElem.mp (asc_sorted hx) (posf x i) (posf x j) (by rw [asc_len]; exact a1) (by rw [asc_len]; exact b1) h
    rw [(List.getElem?_eq_some_iff.mp a2).2, (List.getElem?_eq_some_iff.mp b2).2] at s
    exact s
  refine ⟨key hi hj, fun h => ?_⟩
  rcases Nat.lt_trichotomy (posf x i) (posf x j) with z | z | z
  · exact z
  · have : i = j := by rw [← pt_pos hx hi, z, pt_pos hx hj]
    subst this
    rw [ord_self] at h
    exact absurd h (by decide)
  · have h2 := key hj hi z
    have := ord_anti (s := 1) (hx.drop hi).lt3 (hx.drop hj).lt3
    omega

set_option maxRecDepth 100000
set_option maxHeartbeats 8000000
open PySem PySem.Spec PyProof.Rows L2 DL
/-! ### positions of a product -/
theorem strict_id {N : Nat} {h : Nat → Nat} (hN : ∀ k, k < N → h k < N) (mono : ∀ i j, i < j → j < N → h i < h j) : ∀ k, k < N → h k = k := by
  have lo : ∀ k, k < N → k ≤ h k := fun k => by
    induction k with
    | zero => intro _; exact Nat.zero_le _
    | succ k ih => intro hk; have := ih (by omega); have := mono k (k + 1) (by omega) hk; omega
  have up : ∀ d k, k + d + 1 = N → h k + d + 1 ≤ N := fun d => by
    induction d with
    | zero => intro k hk; have := hN k (by omega); omega
    | succ d ih =>
      intro k hk
      have := ih (k + 1) (by omega)
      have := mono k (k + 1) (by omega) (by omega)
      omega
  intro k hk
  have := lo k hk
  have := up (N - 1 - k) k (by omega)
  omega
theorem pos_unique {z : List Nat} (hz : Cd z) {g : Nat → Nat} (hg : ∀ i, i < z.length → g i < z.length) (mono : ∀ i j, i < z.length → j < z.length → ord 1 (z.drop i) (z.drop j) < 0 → g i < g j) {i : Nat} (hi : i < z.length) : posf z i = g i := by
  have key := strict_id (N := z.length) (h := fun k => g (ptAt z k)) (fun k hk => hg _ (pos_pt hz hk).1) (fun a b h1 h2 => by
    have pa := pos_pt hz (show a < z.length by omega)
    have pb := pos_pt hz h2
    refine mono _ _ pa.1 pb.1 ((pos_lt_iff hz pa.1 pb.1).mp ?_)
    rw [pa.2, pb.2]; exact h1) (posf z i) (pos_lt hz hi)
  have key : g (ptAt z (posf z i)) = posf z i := key
  rw [pt_pos hz hi] at key
  exact key.symm
theorem tms_dropn (w : List Nat) : ∀ (q : List Nat) (l r : Nat), r ≤ w.length → (tms w q).drop (r + (w.length + 1) * l) = (tms w (q.drop l)).drop r
  | q, 0, r, _ => by rw [Nat.mul_zero, Nat.add_zero, List.drop_zero]
  | [], l + 1, r, _ => by rw [List.drop_nil, tms_nil, List.drop_nil, List.drop_nil]
  | c :: q, l + 1, r, hr => by
    rw [List.drop_succ_cons, ← tms_dropn w q l r hr, tms_cons]
    have e : r + (w.length + 1) * (l + 1) = (w ++ [fl (od w) c]).length + (r + (w.length + 1) * l) := by rw [List.length_append, Nat.mul_succ]; simp; omega
    have e2 : w ++ fl (od w) c :: tms w q = (w ++ [fl (od w) c]) ++ tms w q := by simp
    rw [e, e2, List.drop_append, List.drop_of_length_le (by omega)]
    simp
def pin (w y : List Nat) (r l : Nat) : Nat := if od (w.take r) then y.length - 1 - posf y l else posf y l
def posP (w y : List Nat) (r l : Nat) : Nat := posf (w ++ [67]) r * y.length + pin w y r l
theorem pin_lt {w y : List Nat} (hy : Cd y) {r l : Nat} (hl : l < y.length) : pin w y r l < y.length := by
  have := pos_lt hy hl
  unfold pin
  split <;> omega
theorem posP_lt {w y : List Nat} (hw : LR w) (hy : Cd y) {r l : Nat} (hr : r ≤ w.length) (hl : l < y.length) : posP w y r l < (w.length + 1) * y.length := by
  have a := pos_lt (Cd.of hw) (show r < (w ++ [67]).length by simp; omega)
  have b := pin_lt (w := w) (r := r) hy hl
  have la : (w ++ [67]).length = w.length + 1 := by simp
  rw [la] at a
  have : (posf (w ++ [67]) r + 1) * y.length ≤ (w.length + 1) * y.length := Nat.mul_le_mul_right _ (by omega)
  rw [Nat.add_mul, Nat.one_mul] at this
  unfold posP
  omega
theorem posP_mono {w y : List Nat} (hw : LR w) (hA : Adm (w ++ [67])) (hy : Cd y) {r r' l l' : Nat} (h1 : r ≤ w.length) (h2 : r' ≤ w.length) (hl : l < y.length) (hl' : l' < y.length)
    (h : ord 1 ((tms w (y.drop l)).drop r) ((tms w (y.drop l')).drop r') < 0) : posP w y r l < posP w y r' l' := by
  have cl := hy.drop hl
  have cl' := hy.drop hl'
  have cx := Cd.of hw
  have la : (w ++ [67]).length = w.length + 1 := by simp
  have b1 := pin_lt (w := w) (r := r) hy hl
  have b2 := pin_lt (w := w) (r := r') hy hl'
  have dif : r ≠ r' → ord 1 ((w ++ [67]).drop r) ((w ++ [67]).drop r') < 0 := fun ne => by
    rcases Nat.lt_or_gt_of_ne ne with z | z
    · rw [blk hw hA cl cl' z h2] at h; exact h
    · have e := blk hw hA cl' cl z h1
      have lt1 : Lt3 ((tms w (y.drop l)).drop r) := fun c hc => tms_lt3 hw cl.lt3 c (List.mem_of_mem_drop hc)
      have lt2 : Lt3 ((tms w (y.drop l')).drop r') := fun c hc => tms_lt3 hw cl'.lt3 c (List.mem_of_mem_drop hc)
      have a1 := ord_anti (s := 1) lt1 lt2
      have a2 := ord_anti (s := 1) (cx.drop (show r < (w ++ [67]).length by omega)).lt3 (cx.drop (show r' < (w ++ [67]).length by omega)).lt3
      omega
  by_cases z : r = r'
  · subst z
    rw [blk_same cl cl' h1] at h
    unfold posP
    have p1 := pos_lt_iff hy hl hl'
    have p2 := pos_lt_iff hy hl' hl
    have q1 := pos_lt hy hl
    have q2 := pos_lt hy hl'
    have an := ord_anti (s := 1) cl.lt3 cl'.lt3
    unfold pin
    by_cases o : od (w.take r) = true
    · rw [if_pos o] at h ⊢
      rw [if_pos o]
      have := p2.mpr (by omega)
      omega
    · rw [if_neg o] at h ⊢
      rw [if_neg o]
      have := p1.mpr h
      omega
  · have := (pos_lt_iff cx (show r < (w ++ [67]).length by omega) (show r' < (w ++ [67]).length by omega)).mpr (dif z)
    have m : (posf (w ++ [67]) r + 1) * y.length ≤ posf (w ++ [67]) r' * y.length := Nat.mul_le_mul_right _ this
    rw [Nat.add_mul, Nat.one_mul] at m
    unfold posP
    omega
/-- where a point of a product stands -/
theorem pos_prod {w y : List Nat} (hw : LR w) (hA : Adm (w ++ [67])) (hy : Cd y) {r l : Nat} (hr : r ≤ w.length) (hl : l < y.length) : posf (tms w y) (r + (w.length + 1) * l) = posP w y r l := by
  have n0 : 0 < w.length + 1 := by omega
  have cz := tms_cd hw hy
  have len := tms_length w y
  have dm : ∀ i, i < (tms w y).length → i % (w.length + 1) ≤ w.length ∧ i / (w.length + 1) < y.length ∧ i = i % (w.length + 1) + (w.length + 1) * (i / (w.length + 1)) := fun i hi => by
    rw [len] at hi
    have a := Nat.mod_lt i n0
    have b := Nat.mod_add_div i (w.length + 1)
    exact ⟨by omega, Nat.div_lt_of_lt_mul hi, b.symm⟩
  have key := pos_unique cz (g := fun i => posP w y (i % (w.length + 1)) (i / (w.length + 1))) (fun i hi => by
    obtain ⟨a, b, _⟩ := dm i hi
    rw [len]; exact posP_lt hw hy a b) (fun i j hi hj h => by
    obtain ⟨a, b, c⟩ := dm i hi
    obtain ⟨a', b', c'⟩ := dm j hj
    rw [c, c', tms_dropn w y _ _ a, tms_dropn w y _ _ a'] at h
    exact posP_mono hw hA hy a a' b b' h) (i := r + (w.length + 1) * l) (by
      rw [len]
      have : (w.length + 1) * (l + 1) ≤ (w.length + 1) * y.length := Nat.mul_le_mul_left _ hl
      rw [Nat.mul_succ] at this; omega)
  rw [key]
  show posP w y ((r + (w.length + 1) * l) % (w.length + 1)) ((r + (w.length + 1) * l) / (w.length + 1)) = _
  rw [Nat.add_mul_mod_self_left, Nat.add_mul_div_left _ _ n0, Nat.mod_eq_of_lt (by omega), Nat.div_eq_of_lt (by omega), Nat.zero_add]

set_option maxRecDepth 100000
set_option maxHeartbeats 8000000
open PySem PySem.Spec PyProof.Rows L2 DL
/-! ### the permutation of a product -/
def fP (x : List Nat) (p : Nat) : Nat := posf x ((ptAt x p + 1) % x.length)
theorem permL_fP (x : List Nat) : permL x = (List.range x.length).map (fP x) := rfl
theorem fP_pos {x : List Nat} (hx : Cd x) {i : Nat} (hi : i < x.length) : fP x (posf x i) = posf x ((i + 1) % x.length) := by
  unfold fP; rw [pt_pos hx hi]
theorem idx_lt {n m r l : Nat} (hr : r < n) (hl : l < m) : r + n * l < n * m := by
  have : n * (l + 1) ≤ n * m := Nat.mul_le_mul_left _ hl
  rw [Nat.mul_succ] at this; omega
theorem fz_in {w y : List Nat} (hw : LR w) (hA : Adm (w ++ [67])) (hy : Cd y) {r l : Nat} (hr : r < w.length) (hl : l < y.length) : fP (tms w y) (posP w y r l) = posP w y (r + 1) l := by
  have cz := tms_cd hw hy
  have len := tms_length w y
  have hi := idx_lt (n := w.length + 1) (show r < w.length + 1 by omega) hl
  have hj := idx_lt (n := w.length + 1) (show r + 1 < w.length + 1 by omega) hl
  rw [← pos_prod hw hA hy (by omega) hl, fP_pos cz (by rw [len]; exact hi), ← pos_prod hw hA hy (show r + 1 ≤ w.length by omega) hl, len, Nat.mod_eq_of_lt (by omega)]
  congr 1; omega
theorem fz_out {w y : List Nat} (hw : LR w) (hA : Adm (w ++ [67])) (hy : Cd y) {l : Nat} (hl : l < y.length) : fP (tms w y) (posP w y w.length l) = posP w y 0 ((l + 1) % y.length) := by
  have cz := tms_cd hw hy
  have len := tms_length w y
  have hi := idx_lt (n := w.length + 1) (show w.length < w.length + 1 by omega) hl
  rw [← pos_prod hw hA hy (Nat.le_refl _) hl, fP_pos cz (by rw [len]; exact hi), ← pos_prod hw hA hy (show 0 ≤ w.length by omega) (Nat.mod_lt _ (by omega)), len]
  congr 1
  rw [Nat.zero_add, show w.length + (w.length + 1) * l + 1 = (w.length + 1) * (l + 1) by rw [Nat.mul_succ]; omega, Nat.mul_mod_mul_left]
def itF (f : Nat → Nat) : Nat → Nat → Nat
  | 0, p => p
  | k + 1, p => f (itF f k p)
theorem fz_it {w y : List Nat} (hw : LR w) (hA : Adm (w ++ [67])) (hy : Cd y) {l : Nat} (hl : l < y.length) : ∀ k, k ≤ w.length → itF (fP (tms w y)) (k + 1) (posP w y w.length l) = posP w y k ((l + 1) % y.length)
  | 0, _ => fz_out hw hA hy hl
  | k + 1, h => by
    show fP (tms w y) (itF (fP (tms w y)) (k + 1) _) = _
    rw [fz_it hw hA hy hl k (by omega)]
    exact fz_in hw hA hy (by omega) (Nat.mod_lt _ (by omega))
theorem posP_div {w y : List Nat} (hy : Cd y) {r l : Nat} (hl : l < y.length) : posP w y r l / y.length = posf (w ++ [67]) r := by
  have b := pin_lt (w := w) (r := r) hy hl
  unfold posP
  rw [Nat.mul_comm, Nat.mul_add_div (by omega), Nat.div_eq_of_lt b, Nat.add_zero]
theorem point_of {w y : List Nat} (hw : LR w) (hA : Adm (w ++ [67])) (hy : Cd y) {p : Nat} (hp : p < (w.length + 1) * y.length) : ∃ r l, r ≤ w.length ∧ l < y.length ∧ p = posP w y r l := by
  have cz := tms_cd hw hy
  have len := tms_length w y
  obtain ⟨a, b⟩ := pos_pt cz (show p < (tms w y).length by rw [len]; exact hp)
  rw [len] at a
  have n0 : 0 < w.length + 1 := by omega
  have m := Nat.mod_lt (ptAt (tms w y) p) n0
  refine ⟨ptAt (tms w y) p % (w.length + 1), ptAt (tms w y) p / (w.length + 1), by omega, Nat.div_lt_of_lt_mul a, ?_⟩
  rw [← pos_prod hw hA hy (by omega) (Nat.div_lt_of_lt_mul a), Nat.mod_add_div]
  exact b.symm
/-- places of the product go as places of the first code -/
theorem blocks {w y : List Nat} (hw : LR w) (hA : Adm (w ++ [67])) (hy : Cd y) {p : Nat} (hp : p < (w.length + 1) * y.length) : fP (tms w y) p / y.length = fP (w ++ [67]) (p / y.length) := by
  obtain ⟨r, l, hr, hl, rfl⟩ := point_of hw hA hy hp
  have lx : (w ++ [67]).length = w.length + 1 := by simp
  rw [posP_div hy hl, fP_pos (Cd.of hw) (by omega)]
  by_cases h : r < w.length
  · rw [fz_in hw hA hy h hl, posP_div hy hl, lx, Nat.mod_eq_of_lt (by omega)]
  · have e : r = w.length := by omega
    subst e
    rw [fz_out hw hA hy hl, posP_div hy (Nat.mod_lt _ (by omega)), lx, Nat.mod_self]
/-- the block of the turning point, once round -/
theorem inner_at {w y : List Nat} (hw : LR w) (hA : Adm (w ++ [67])) (hy : Cd y) {o : Nat} (ho : o < y.length) :
    itF (fP (tms w y)) (w.length + 1) (posf (w ++ [67]) w.length * y.length + o) = posf (w ++ [67]) w.length * y.length + (if od w then y.length - 1 - fP y (y.length - 1 - o) else fP y o) := by
  have tw : w.take w.length = w := List.take_length
  obtain ⟨l, hl, el⟩ : ∃ l, l < y.length ∧ o = pin w y w.length l := by
    unfold pin
    rw [tw]
    cases od w
    · exact ⟨ptAt y o, (pos_pt hy ho).1, (pos_pt hy ho).2.symm⟩
    · have q := pos_pt hy (show y.length - 1 - o < y.length by omega)
      refine ⟨ptAt y (y.length - 1 - o), q.1, ?_⟩
      rw [q.2]
      show o = y.length - 1 - (y.length - 1 - o)
      omega
  have e := fz_it hw hA hy hl w.length (Nat.le_refl _)
  subst el
  rw [show posf (w ++ [67]) w.length * y.length + pin w y w.length l = posP w y w.length l from rfl, e]
  unfold posP
  congr 1
  have q := pos_lt hy hl
  unfold pin
  rw [tw]
  cases od w
  · show posf y _ = fP y (posf y l)
    rw [fP_pos hy hl]
  · show y.length - 1 - posf y _ = y.length - 1 - fP y (y.length - 1 - (y.length - 1 - posf y l))
    rw [show y.length - 1 - (y.length - 1 - posf y l) = posf y l by omega, fP_pos hy hl]

set_option maxRecDepth 100000
set_option maxHeartbeats 8000000
open PySem PySem.Spec PyProof.Rows L2 DL
/-! ### quotients -/
theorem is_odd_ok {x : List Nat} {π : Pn} {E} {Q : Dv → Pn → Prop} (q : Q (.val (.bool (od x))) π) : wR (m_is_odd [.val (tx x)] π) E Q := by
  unfold m_is_odd b_is_odd
  refine w_run ?_
  simp only [lit_R]
  walk_at "dl wgo"
  rw [show Txt.count (SX.S x) (SX.S [82]) = PyProof.Rows.cnt 82 x from PyProof.Rows.count_cnt _ _]
  have ho : (PyProof.Rows.cnt 82 x % 2 == 1) = od x := by
    have := cnt_od x
    cases e : od x with
    | true => rw [e] at this; simpa using this.mpr rfl
    | false => rw [e] at this; simpa using fun q => by have := this.mp q; cases this
  rw [ho]; exact q
theorem fl_false (x : List Nat) : x.map (fl false) = x := by
  have : fl false = id := rfl
  rw [this, List.map_id]
theorem turned_ok {x y : List Nat} (hx : Lt3 x) (lx : x.length ≤ 1000) {π : Pn} {E} {Q : Dv → Pn → Prop} (q : Q (.val (tx (x.map (fl (od y))))) π) : wR (m_turned [.val (tx x), .val (tx y)] π) E Q := by
  unfold m_turned b_turned
  refine w_run ?_
  simp only [lit_L, lit_R, lit_C, lit_e]
  walk_at "dl wgo"
  refine is_odd_ok ?_
  cases ho : od y with
  | false =>
    rw [ho, fl_false] at q
    walk_at "dl wgo"
    exact q
  | true =>
    rw [ho] at q
    walk_at "dl wgo"
    rw [signs_S]
    refine ⟨by rw [List.length_map]; omega, ?_⟩
    refine w_cgo0 (J := fun rest acc π' => ∃ u t, x = u ++ t ∧ rest = t.map (fun c => tx [c]) ∧ acc = ((u.map (fl true)).map fun c => [c]).map tx ∧ π' = π) ?_ ?_ ⟨[], x, rfl, rfl, rfl, rfl⟩
    · rintro d r acc π' ⟨u, t, e, hr, rfl, rfl⟩
      match t, hr with
      | c :: t, hr =>
        cases hr
        have hc := hx c (by rw [e]; simp)
        have fin : ∀ {c' : Nat}, c' = sw c → ∃ y, Dv.val (tx [c']) = .val y ∧ ∃ u' t', x = u' ++ t' ∧ t.map (fun c => tx [c]) = t'.map (fun c => tx [c]) ∧ ((u.map (fl true)).map fun c => [c]).map tx ++ [y] = ((u'.map (fl true)).map fun c => [c]).map tx ∧ π' = π' := by
          rintro _ rfl
          exact ⟨_, rfl, u ++ [c], t, by rw [e]; simp, rfl, by simp [fl], rfl⟩
        walk_at "dl wgo"
        refine wR_bind ?_
        walk_at "dl wgo"
        rcases hc with rfl | rfl | rfl
        · exact fin (c' := 82) rfl
        · exact fin (c' := 67) rfl
        · exact fin (c' := 76) rfl
    · rintro acc π' ⟨u, t, e, hr, rfl, rfl⟩
      match t, hr with
      | [], _ =>
        rw [List.append_nil] at e
        subst e
        walk_at "dl wgo"
        refine join_ok ?_ ?_
        · rw [flat_one]; simp; omega
        · rw [flat_one]; exact q

set_option maxRecDepth 100000
set_option maxHeartbeats 8000000
open PySem PySem.Spec PyProof.Rows L2 DL
theorem joined_ok {w x : List Nat} (hx : Lt3 x) (lw : w.length ≤ 100) (lx : x.length ≤ 100) {π : Pn} {E} {Q : Dv → Pn → Prop} (q : Q (.val (tx (tms w x))) π) : wR (m_joined [.val (tx (w ++ [67])), .val (tx x)] π) E Q := by
  unfold m_joined b_joined
  refine w_run ?_
  simp only [lit_e]
  walk_at "dl wgo"
  refine o_w_slS (by simp; omega) (SX.butlast_snoc w 67) ?_
  walk_at "dl wgo"
  refine turned_ok hx (by omega) ?_
  refine o_w_some _ (congrArg some (signs_S _)) ?_
  refine ⟨by rw [List.length_map, List.length_map]; omega, ?_⟩
  refine w_cgo0 (J := fun rest acc π' => ∃ u t, x = u ++ t ∧ rest = (t.map (fl (od w))).map (fun c => tx [c]) ∧ acc = (u.map fun c => w ++ [fl (od w) c]).map tx ∧ π' = π) ?_ ?_ ⟨[], x, rfl, rfl, rfl, rfl⟩
  · rintro d r acc π' ⟨u, t, e, hr, rfl, rfl⟩
    match t, hr with
    | c :: t, hr =>
      cases hr
      walk_at "dl wgo"
      refine o_w_catS (by simp; omega) ?_
      exact ⟨_, rfl, u ++ [c], t, by rw [e]; simp, rfl, by simp, rfl⟩
  · rintro acc π' ⟨u, t, e, hr, rfl, rfl⟩
    match t, hr with
    | [], _ =>
      rw [List.append_nil] at e
      subst e
      walk_at "dl wgo"
      refine join_ok ?_ ?_
      · have := tms_length w x
        unfold tms at this
        rw [this]
        exact Nat.le_trans (Nat.mul_le_mul (show w.length + 1 ≤ 101 by omega) lx) (by decide)
      · exact q

set_option maxRecDepth 100000
set_option maxHeartbeats 8000000
open PySem PySem.Spec PyProof.Rows L2 DL
theorem is_code_ok {x : List Nat} (h : IsC x) {π : Pn} {E} {Q : Dv → Pn → Prop} (q : Q (.val (.bool true)) π) : wR (m_is_code [.val (tx x)] π) E Q := by
  have hl := h.len
  obtain ⟨w, hw, hw2, rfl⟩ := h
  unfold m_is_code b_is_code
  refine w_run ?_
  simp only [lit_C, lit_LR]
  walk_at "dl wgo"
  refine o_w_lenT ?_ ?_
  · omega
  walk_at "dl wgo"
  walk_at "dl w_T"
  walk_at "dl wgo"
  rw [decide_eq_true (by omega)]
  walk_at "dl wgo"
  refine o_w_idxS ?_ last_at ?_
  · rw [SX.S_len]; omega
  walk_at "dl wgo"
  rw [show ((⟨#[67]⟩ : Str) == SX.S [67]) = true by decide]
  walk_at "dl wgo"
  refine o_w_slS ?_ (SX.butlast_snoc w 67) ?_
  · omega
  walk_at "dl wgo"
  rw [show (SX.S w).cps.toList = w from rfl, List.all_eq_true.mpr fun c hc => by rcases hw c hc with rfl | rfl <;> decide]
  exact q

set_option maxRecDepth 100000
set_option maxHeartbeats 8000000
open PySem PySem.Spec PyProof.Rows L2 DL
theorem require_ok {x : List Nat} (h : IsC x) {π : Pn} {E} {Q : Dv → Pn → Prop} (q : Q (.val .none) π) : wR (m_require_code [.val (tx x)] π) E Q := by
  unfold m_require_code b_require_code
  refine w_run ?_
  walk_at "dl wgo"
  refine is_code_ok h ?_
  walk_at "dl wgo"
  exact q

set_option maxRecDepth 100000
set_option maxHeartbeats 8000000
open PySem PySem.Spec PyProof.Rows L2 DL
theorem product_ok {w y : List Nat} (hx : IsC (w ++ [67])) (hy : IsC y) (hl : (w.length + 1) * y.length ≤ 40) {π : Pn} {E} {Q : Dv → Pn → Prop} (q : Q (.val (tx (tms w y))) π) : wR (m_product [.val (tx (w ++ [67])), .val (tx y)] π) E Q := by
  have lx := hx.len
  have ly := hy.len
  have lw : (w ++ [67]).length = w.length + 1 := by simp
  unfold m_product b_product
  refine w_run ?_
  walk_at "dl wgo"
  refine require_ok hx ?_
  walk_at "dl wgo"
  refine require_ok hy ?_
  walk_at "dl wgo"
  refine o_w_lenT (by omega) ?_
  walk_at "dl wgo"
  refine o_w_lenT (by omega) ?_
  walk_at "dl wgo"
  refine w_iteOF (decide_eq_false ?_) ?_
  · rw [lw, ← Int.natCast_mul]; omega
  walk_at "dl wgo"
  exact joined_ok hy.lt3 (by omega) (by omega) q

set_option maxRecDepth 100000
set_option maxHeartbeats 8000000
open PySem PySem.Spec PyProof.Rows L2 DL
/-! ### the law -/
theorem tu_at {l : List Nat} {p : Nat} {v : Nat} (h : l[p]? = some v) : atI (l.map fun i : Nat => PyData.int i) (p : Int) = some (.int (v : Nat)) := by
  have hp : p < l.length := (List.getElem?_eq_some_iff.mp h).1
  unfold atI
  rw [List.length_map, ix_nat hp]
  simp [h]
theorem o_w_idxT {ds : List PyData} {i : Int} {d : PyData} (e : atI ds i = some d) {Q : Dv → Prop} (h : Q (.val d)) : wO (dIdx (.val (.tuple ds)) (.val (.int i))) Q := by
  show wO ((atI ds i).map Dv.val) Q
  rw [e]; exact h
theorem ne_tup (l : List Nat) {Q : Dv → Prop} (q : Q (.val (.bool false))) : wO (dNe (.val (.tuple (l.map fun i : Nat => PyData.int i))) (.val (tuN l))) Q := by
  obtain ⟨a, b⟩ := lay_ints l
  have hs : SeqAt.shaped (tuN l) = true := by
    show (PyData.canLayAll0 (l.map fun (i : Nat) => PyData.int i) && decide (PyData.depthAll (l.map fun (i : Nat) => PyData.int i) + 1 ≤ 64)) = true
    rw [a, b]; rfl
  show wO ((if (SeqAt.shaped (tuN l) && SeqAt.shaped (tuN l)) = true then some (PyData.eqv (tuN l) (tuN l)) else none).map fun b => Dv.val (.bool (!b))) Q
  rw [if_pos (by rw [hs]; rfl), PySem.SeqAt.eqv_refl (tuN l) a]
  exact q
theorem holds_law : Holds m_law := by
  refine holds_of_w fun ns hl _ => ?_
  unfold m_law b_law
  refine w_run ?_
  simp only [lit_R]
  walk_at "dl wgo"
  refine open_ok hl fun pe g => ?_
  walk_at "dl wgo"
  refine w_rangeI1 ?_
  walk_at "dl wgo"
  refine ⟨by decide, by decide, ?_⟩
  refine w_go (I := fun rest ρ π => ∃ pe e2 e3 e4 e5 e6 e7 e8 e9 e10 e11 e12 e13, ρ = [.val (.scr ns), .val .pen, e2, e3, e4, e5, e6, e7, e8, e9, e10, e11, e12, e13] ∧ π = some pe ∧ Good (300 * (5 - rest.length)) pe ∧ rest.length ≤ 4) ?_ ?_ ⟨pe, _, _, _, _, _, _, _, _, _, _, _, _, rfl, rfl, by rw [rngL_len]; exact g.mono (by decide), by rw [rngL_len]; decide⟩
  · rintro d r ρ π ⟨pe, e2, e3, e4, e5, e6, e7, e8, e9, e10, e11, e12, e13, rfl, rfl, g, hr⟩
    simp only [List.length_cons] at g hr
    generalize hN : 300 * (5 - (r.length + 1)) = N at g
    have hN2 : N + 300 = 300 * (5 - r.length) := by omega
    walk_at "dl wgo"
    refine anew_ok g fun pe g => ?_
    walk_at "dl wgo"
    refine ldraw_ok g (by decide) (by decide) (by omega) fun x pe cx ax lx g => ?_
    have ox : Ok x := ⟨IsC.of_cd cx (by omega), ax⟩
    have lx1 := ox.i.len
    walk_at "dl wgo"
    refine o_w_lenT (by omega) ?_
    walk_at "dl wgo"
    obtain ⟨w, hw, lw39, ex⟩ := id ox.i
    subst ex
    have lw : (w ++ [67]).length = w.length + 1 := by simp
    have q1 : 1 ≤ 40 / ((w ++ [67]).length : Int) := by
      rw [lw] at lx ⊢
      exact (Int.le_ediv_iff_mul_le (by omega)).mpr (by omega)
    have q2 : 40 / ((w ++ [67]).length : Int) ≤ 40 := Int.ediv_le_self _ (by decide)
    refine ldraw_ok g q1 q2 (by omega) fun y pe cy ay ly g => ?_
    have fit : (w.length + 1) * y.length ≤ 40 := by
      have h := Int.mul_le_of_le_ediv (by rw [lw]; omega) ly
      rw [lw] at h
      have : (((w.length + 1) * y.length : Nat) : Int) ≤ 40 := by rw [Int.natCast_mul, Int.mul_comm]; exact h
      omega
    have oy : Ok y := ⟨IsC.of_cd cy (by have := Nat.le_mul_of_pos_left y.length (show 0 < w.length + 1 by omega); omega), ay⟩
    have ly1 := oy.i.len
    have oz : Ok (tms w y) := ⟨IsC.of_cd (tms_cd hw cy) (by rw [tms_length]; exact fit), adm_tms hw ax cy ay⟩
    have lz := tms_length w y
    walk_at "dl wgo"
    refine permutation_ok ox ?_
    walk_at "dl wgo"
    refine product_ok ox.i oy.i fit ?_
    walk_at "dl wgo"
    refine permutation_ok oz ?_
    walk_at "dl wgo"
    refine o_w_lenT (by omega) ?_
    generalize hM : ((y.length : Nat) : Int) = M
    have tz : ∀ p, p < (w.length + 1) * y.length → atI ((permL (tms w y)).map fun i : Nat => PyData.int i) (p : Int) = some (.int (fP (tms w y) p : Nat)) := fun p hp => tu_at (by rw [permL_fP, List.getElem?_map, List.getElem?_range (by rw [lz]; exact hp)]; rfl)
    have tx1 : ∀ p, p < w.length + 1 → atI ((permL (w ++ [67])).map fun i : Nat => PyData.int i) (p : Int) = some (.int (fP (w ++ [67]) p : Nat)) := fun p hp => tu_at (by rw [permL_fP, List.getElem?_map, List.getElem?_range (by rw [lw]; exact hp)]; rfl)
    have lpz : ((permL (tms w y)).map fun i : Nat => PyData.int i).length = (w.length + 1) * y.length := by rw [List.length_map, permL_len, lz]
    have lpx : ((permL (w ++ [67])).map fun i : Nat => PyData.int i).length = w.length + 1 := by rw [List.length_map, permL_len, lw]
    unfold tuN
    generalize ((permL (tms w y)).map fun i : Nat => PyData.int i) = TZ at *
    generalize ((permL (w ++ [67])).map fun i : Nat => PyData.int i) = TX at *
    walk_at "dl wgo"
    with_reducible refine w_rangeI1 ?_
    walk_at "dl wgo"
    rw [lpz]
    generalize hZ : (((w.length + 1) * y.length : Nat) : Int) = Z
    have z1 : -(2 ^ 62) ≤ Z ∧ Z ≤ 16777216 := by omega
    have z2 : (rngL 0 1 Z.toNat).length < 16777216 := by rw [rngL_len]; omega
    with_reducible refine ⟨z1.1, (by omega), z2, ?_⟩
    rw [rng_nat, show Z.toNat = (w.length + 1) * y.length by omega]
    refine w_cmap (g := fun p : Nat => .int ((fP (tms w y) p / y.length : Nat) : Int)) (fun p hp => ?_) ?_
    · have hp := List.mem_range.mp hp
      have tp := tz p hp
      generalize hpp : ((p : Nat) : Int) = pp at *
      walk_at "dl wgo"
      refine o_w_idxT tp ?_
      generalize fP (tms w y) p = v at *
      walk_at "dl wgo"
      refine ⟨?_, rfl⟩
      rw [← hM, Int.natCast_ediv]
    walk_at "dl wgo"
    with_reducible refine w_rangeI1 ?_
    walk_at "dl wgo"
    rw [lpz, hZ]
    with_reducible refine ⟨z1.1, (by omega), z2, ?_⟩
    rw [rng_nat, show Z.toNat = (w.length + 1) * y.length by omega]
    refine w_cmap (g := fun p : Nat => .int ((fP (tms w y) p / y.length : Nat) : Int)) (fun p hp => ?_) ?_
    · have hp := List.mem_range.mp hp
      have hb := blocks hw ax cy hp
      have hp2 : p / y.length < w.length + 1 := Nat.div_lt_of_lt_mul (by rw [Nat.mul_comm]; exact hp)
      have tp := tx1 _ hp2
      rw [hb]
      generalize fP (w ++ [67]) (p / y.length) = v at *
      rw [Int.natCast_ediv, hM] at tp
      generalize hpp : ((p : Nat) : Int) = pp at *
      walk_at "dl wgo"
      refine o_w_idxT tp ?_
      exact ⟨rfl, rfl⟩
    have ne1 : ∀ {Q : Dv → Prop}, Q (.val (.bool false)) → wO (dNe (.val (.list ((List.range ((w.length + 1) * y.length)).map fun p : Nat => PyData.int ((fP (tms w y) p / y.length : Nat) : Int)))) (.val (.list ((List.range ((w.length + 1) * y.length)).map fun p : Nat => PyData.int ((fP (tms w y) p / y.length : Nat) : Int))))) Q := fun q => by
      have e : ((List.range ((w.length + 1) * y.length)).map fun p : Nat => PyData.int ((fP (tms w y) p / y.length : Nat) : Int)) = ((List.range ((w.length + 1) * y.length)).map fun p => fP (tms w y) p / y.length).map fun i : Nat => PyData.int i := by rw [List.map_map]; rfl
      rw [e]
      exact ne_ok true (by rw [shaped_ints]; rfl) (PySem.SeqAt.eqv_refl _ (lay_ints _).1) q
    refine ne1 ?_
    walk_at "dl wgo"
    refine positions_ok ox ?_
    walk_at "dl wgo"
    refine o_w_lenT (by omega) ?_
    walk_at "dl wgo"
    have tl : atI ((posL (w ++ [67])).map fun i : Nat => PyData.int i) ((w.length : Nat) : Int) = some (.int (posf (w ++ [67]) w.length : Nat)) := tu_at (by unfold posL; rw [List.getElem?_map, List.getElem?_range (by omega)]; rfl)
    have e1 : ((w ++ [67]).length : Int) - 1 = (w.length : Int) := by rw [lw]; omega
    rw [e1]
    refine o_w_idxT tl ?_
    have cb : posf (w ++ [67]) w.length < w.length + 1 := by have := pos_lt cx (show w.length < (w ++ [67]).length by omega); omega
    generalize hC : ((posf (w ++ [67]) w.length : Nat) : Int) = C
    walk_at "dl wgo"
    with_reducible refine w_rangeI1 ?_
    walk_at "dl wgo"
    have m1 : -(2 ^ 62) ≤ M ∧ M < 2 ^ 62 ∧ M ≤ 40 ∧ 0 ≤ M := by omega
    with_reducible refine ⟨m1.1, m1.2.1, ?_⟩
    rw [rng_nat, show M.toNat = y.length by omega]
    let F : Nat → Nat := fun o => if od w then y.length - 1 - fP y (y.length - 1 - o) else fP y o
    refine w_go (I := fun rest ρ π' => ∃ (k : Nat) (e7 e11 e12 : Sv), rest = ((List.range y.length).drop k).map (fun i : Nat => PyData.int i) ∧ k ≤ y.length ∧ ρ = [.val (.scr ns), .val .pen, .val (.val d), .val (.val (tx (w ++ [67]))), .val (.val (tx y)), .val (.val (.int C)), .own ((List.range k).map fun o => .int (F o : Nat)), e7, .val (.val (.tuple TX)), .val (.val (.tuple TZ)), .val (.val (.int M)), e11, e12, e13] ∧ π' = some pe) ?_ ?_ ⟨0, _, _, _, rfl, Nat.zero_le _, rfl, rfl⟩
    · rintro d2 r2 ρ π' ⟨k, e7, e11, e12, hr, hk, rfl, rfl⟩
      by_cases h : k < y.length
      · rw [List.drop_eq_getElem_cons (by rw [List.length_range]; exact h), List.map_cons, List.getElem_range] at hr
        cases hr
        generalize hkk : ((k : Nat) : Int) = kk
        walk_at "dl wgo"
        have pl : posf (w ++ [67]) w.length * y.length + k < (w.length + 1) * y.length := by
          have : (posf (w ++ [67]) w.length + 1) * y.length ≤ (w.length + 1) * y.length := Nat.mul_le_mul_right _ (by omega)
          rw [Nat.add_mul, Nat.one_mul] at this
          omega
        have e2 : C * M + kk = ((posf (w ++ [67]) w.length * y.length + k : Nat) : Int) := by
          rw [← hC, ← hM, ← hkk, Int.natCast_add, Int.natCast_mul]
        have ia := inner_at hw ax cy h
        have fl : ∀ q, fP (tms w y) q < (w.length + 1) * y.length := fun q => by
          have := pos_lt (tms_cd hw cy) (Nat.mod_lt (ptAt (tms w y) q + 1) (show 0 < (tms w y).length by rw [lz]; omega))
          rw [lz] at this
          unfold fP
          rw [lz]; exact this
        have il : ∀ j, itF (fP (tms w y)) j (posf (w ++ [67]) w.length * y.length + k) < (w.length + 1) * y.length := fun j => by
          cases j with
          | zero => exact pl
          | succ j => exact fl _
        rw [e2]
        generalize hp0 : posf (w ++ [67]) w.length * y.length + k = p0 at *
        with_reducible refine w_rangeI1 ?_
        walk_at "dl wgo"
        refine o_w_lenT (by omega) ?_
        generalize hL : ((w ++ [67]).length : Int) = L
        walk_at "dl wgo"
        have l1 : -(2 ^ 62) ≤ L ∧ L < 2 ^ 62 := by omega
        with_reducible refine ⟨l1.1, l1.2, ?_⟩
        rw [rng_nat, show L.toNat = w.length + 1 by omega]
        refine w_go (I := fun rest ρ π' => ∃ (j : Nat) (e12 : Sv), rest = ((List.range (w.length + 1)).drop j).map (fun i : Nat => PyData.int i) ∧ j ≤ w.length + 1 ∧ ρ = [.val (.scr ns), .val .pen, .val (.val d), .val (.val (tx (w ++ [67]))), .val (.val (tx y)), .val (.val (.int C)), .own ((List.range k).map fun o => .int (F o : Nat)), .val (.val (.int kk)), .val (.val (.tuple TX)), .val (.val (.tuple TZ)), .val (.val (.int M)), .val (.val (.int (itF (fP (tms w y)) j p0 : Nat))), e12, e13] ∧ π' = some pe) ?_ ?_ ⟨0, _, rfl, Nat.zero_le _, rfl, rfl⟩
        · rintro d3 r3 ρ π' ⟨j, e12, hr3, hj, rfl, rfl⟩
          by_cases h3 : j < w.length + 1
          · rw [List.drop_eq_getElem_cons (by rw [List.length_range]; exact h3), List.map_cons, List.getElem_range] at hr3
            cases hr3
            have tp := tz _ (il j)
            have en : fP (tms w y) (itF (fP (tms w y)) j p0) = itF (fP (tms w y)) (j + 1) p0 := rfl
            rw [en] at tp
            walk_at "dl wgo"
            refine o_w_idxT tp ?_
            exact ⟨j + 1, _, rfl, h3, rfl, rfl⟩
          · rw [List.drop_eq_nil_of_le (by rw [List.length_range]; omega)] at hr3
            cases hr3
        · rintro ρ π' ⟨j, e12, hr3, hj, rfl, rfl⟩
          have h3 : j = w.length + 1 := by
            by_cases h3 : j < w.length + 1
            · rw [List.drop_eq_getElem_cons (by rw [List.length_range]; exact h3)] at hr3
              cases hr3
            · omega
          subst h3
          have e3 : ((itF (fP (tms w y)) (w.length + 1) p0 : Nat) : Int) - C * M = (F k : Nat) := by
            rw [ia, Int.natCast_add, Int.natCast_mul, hC, hM]
            show C * M + _ - C * M = _
            generalize C * M = z
            show z + ((F k : Nat) : Int) - z = _
            omega
          generalize ((itF (fP (tms w y)) (w.length + 1) p0 : Nat) : Int) = V at *
          walk_at "dl wgo"
          refine w_append rfl (by rw [List.length_map, List.length_range]; omega) ?_
          walk_at "dl wgo"
          rw [e3]
          refine ⟨k + 1, .val (.val (.int kk)), .val (.val (.int V)), e12, rfl, h, ?_, rfl⟩
          rw [List.range_succ, List.map_append]
          rfl
      · rw [List.drop_eq_nil_of_le (by rw [List.length_range]; omega)] at hr
        cases hr
    · rintro ρ π' ⟨k, e7, e11, e12, hr, hk, rfl, rfl⟩
      have h : k = y.length := by
        by_cases h : k < y.length
        · rw [List.drop_eq_getElem_cons (by rw [List.length_range]; exact h)] at hr
          cases hr
        · omega
      subst h
      walk_at "dl wgo"
      refine o_w_slS (by simp; omega) (SX.butlast_snoc w 67) ?_
      walk_at "dl wgo"
      rw [show Txt.count (SX.S w) (SX.S [82]) = PyProof.Rows.cnt 82 w from PyProof.Rows.count_cnt _ _]
      have ho : (PyProof.Rows.cnt 82 w % 2 == 1) = od w := by
        have := cnt_od w
        cases e : od w with
        | true => rw [e] at this; simpa using this.mpr rfl
        | false => rw [e] at this; simpa using fun q => by have := this.mp q; cases this
      rw [ho]
      cases hod : od w
      · have hF : F = fP y := by funext o; show (if od w = true then _ else fP y o) = _; rw [hod]; rfl
        rw [hF]
        walk_at "dl wgo"
        refine permutation_ok oy ?_
        have e : ((List.range y.length).map fun o => PyData.int ((fP y o : Nat) : Int)) = (permL y).map fun i : Nat => PyData.int i := by rw [permL_fP, List.map_map]; rfl
        rw [e]
        refine ne_tup _ ?_
        walk_at "dl wgo"
        exact ⟨pe, _, _, _, _, _, _, _, _, _, _, _, _, rfl, rfl, g.mono (by omega), by omega⟩
      · walk_at "dl wgo"
        refine w_revL ?_
        walk_at "dl wgo"
        rw [← List.map_reverse]
        refine ⟨by simp; omega, ?_⟩
        have hF : ∀ o, F o = y.length - 1 - fP y (y.length - 1 - o) := fun o => by show (if od w = true then _ else fP y o) = _; rw [hod]; rfl
        refine w_cmap (g := fun o : Nat => .int ((fP y (y.length - 1 - o) : Nat) : Int)) (fun o ho => ?_) ?_
        · have fb : fP y (y.length - 1 - o) < y.length := pos_lt cy (Nat.mod_lt _ (by omega))
          have e4 : M - 1 - ((F o : Nat) : Int) = ((fP y (y.length - 1 - o) : Nat) : Int) := by rw [hF, ← hM]; omega
          generalize ((F o : Nat) : Int) = v at *
          walk_at "dl wgo"
          rw [e4]
          exact ⟨rfl, rfl⟩
        walk_at "dl wgo"
        refine permutation_ok oy ?_
        have e : ((List.range y.length).reverse.map fun o : Nat => PyData.int ((fP y (y.length - 1 - o) : Nat) : Int)) = (permL y).map fun i : Nat => PyData.int i := by
          rw [permL_fP, List.map_map]
          refine List.ext_getElem (by simp) fun i h1 h2 => ?_
          simp only [List.length_map, List.length_range] at h2
          simp only [List.getElem_map, List.getElem_reverse, List.getElem_range, List.length_range, Function.comp]
          rw [show y.length - 1 - (y.length - 1 - i) = i by omega]
        rw [e]
        refine ne_tup _ ?_
        walk_at "dl wgo"
        exact ⟨pe, _, _, _, _, _, _, _, _, _, _, _, _, rfl, rfl, g.mono (by omega), by omega⟩
  · rintro ρ π ⟨pe, e2, e3, e4, e5, e6, e7, e8, e9, e10, e11, e12, e13, rfl, rfl, g, hr⟩
    walk_at "dl wgo"
    rfl
end La

open PySem PySem.W PyProof.Rows
set_option maxRecDepth 100000 in
set_option maxHeartbeats 8000000 in
theorem PySem.Challenge.cw_humpcodes_k39_whole_blocks_of_products_holds : PySem.Challenge.rw_humpcodes_k39_whole_blocks_of_products.Holds := by
  w_on; o_law; k_head; (case hw => w_witness2)
  k_fill
  refine DL.walkG (l := PySem.Challenge.rw_humpcodes_k39_whole_blocks_of_products) (k := 8) (x := "script") ["is_code", "ascending_points"] rfl rfl ⟨rfl, by decide, by decide⟩ (by decide +kernel) (fun w h Y => by first | exact PySem.W.kIn_of Y | exact PySem.W.km_in_of Y) ?F
  case F =>
    intro w mg fa h Y KX G hmg own
    refine' La.all_mk KX G hmg own La.holds_law ?a0 ?l0 ?c0 ?k0 ?a1 ?l1 ?c1 ?k1 ?a2 ?l2 ?c2 ?k2 ?a3 ?l3 ?c3 ?k3 ?a4 ?l4 ?c4 ?k4 ?a5 ?l5 ?c5 ?k5 ?a6 ?l6 ?c6 ?k6 ?a7 ?l7 ?c7 ?k7 ?a8 ?l8 ?c8 ?k8 ?a9 ?l9 ?c9 ?k9 ?a10 ?l10 ?c10 ?k10 ?a11 ?l11 ?c11 ?k11 ?cx11 ?cy11 ?cz11 ?cn11 ?a12 ?l12 ?c12 ?k12 ?a13 ?l13 ?c13 ?k13 ?a14 ?l14 ?c14 ?k14 ?a15 ?l15 ?c15 ?k15 ?a16 ?l16 ?c16 ?k16 ?a17 ?l17 ?c17 ?k17 ?a18 ?l18 ?c18 ?k18 ?a19 ?l19 ?c19 ?k19 ?a20 ?l20 ?c20 ?k20 ?a21 ?l21 ?c21 ?k21 ?a22 ?l22 ?c22 ?k22 ?cx22 ?cy22 ?cz22 ?cn22 ?a23 ?l23 ?c23 ?k23 ?a24 ?l24 ?c24 ?k24 ?a25 ?l25 ?c25 ?k25 ?z_all ?z_enumerate ?z_int ?z_isinstance ?z_len ?z_list ?z_range ?z_sorted ?z_str ?z_tuple ?z_zip ?c_LETTERS ?c_LIMIT ?xg_NotACode ?xx_NotACode ?xk_NotACode ?xb_NotACode ?xt_NotACode ?xg_NotAdmissible ?xx_NotAdmissible ?xk_NotAdmissible ?xb_NotAdmissible ?xt_NotAdmissible ?xg_TooLong ?xx_TooLong ?xk_TooLong ?xb_TooLong ?xt_TooLong ?dg_SWAPPED ?dl_SWAPPED ?dk_SWAPPED ?dv0_SWAPPED ?dv1_SWAPPED ?dv2_SWAPPED ?nq11
    (case a0 => k_is); (case l0 => k_is); (case c0 => k_is); (case k0 => k_is); (case a1 => k_is); (case l1 => k_is)
    (case c1 => k_is); (case k1 => k_is); (case a2 => k_is); (case l2 => k_is); (case c2 => k_is); (case k2 => k_is)
    (case a3 => k_is); (case l3 => k_is); (case c3 => k_is); (case k3 => k_is); (case a4 => k_is); (case l4 => k_is)
    (case c4 => k_is); (case k4 => k_is); (case a5 => k_is); (case l5 => k_is); (case c5 => k_is); (case k5 => k_is)
    (case a6 => k_is); (case l6 => k_is); (case c6 => k_is); (case k6 => k_is); (case a7 => k_is); (case l7 => k_is)
    (case c7 => k_is); (case k7 => k_is); (case a8 => k_is); (case l8 => k_is); (case c8 => k_is); (case k8 => k_is)
    (case a9 => k_is); (case l9 => k_is); (case c9 => k_is); (case k9 => k_is); (case a10 => k_is); (case l10 => k_is)
    (case c10 => k_is); (case k10 => k_is); (case a11 => k_is); (case l11 => k_is); (case c11 => k_is); (case k11 => k_is)
    (case cx11 => k_is); (case cy11 => rfl); (case cz11 => rfl); (case cn11 => rfl); (case a12 => k_is); (case l12 => k_is)
    (case c12 => k_is); (case k12 => k_is); (case a13 => k_is); (case l13 => k_is); (case c13 => k_is); (case k13 => k_is)
    (case a14 => k_is); (case l14 => k_is); (case c14 => k_is); (case k14 => k_is); (case a15 => k_is); (case l15 => k_is)
    (case c15 => k_is); (case k15 => k_is); (case a16 => k_is); (case l16 => k_is); (case c16 => k_is); (case k16 => k_is)
    (case a17 => k_is); (case l17 => k_is); (case c17 => k_is); (case k17 => k_is); (case a18 => k_is); (case l18 => k_is)
    (case c18 => k_is); (case k18 => k_is); (case a19 => k_is); (case l19 => k_is); (case c19 => k_is); (case k19 => k_is)
    (case a20 => k_is); (case l20 => k_is); (case c20 => k_is); (case k20 => k_is); (case a21 => k_is); (case l21 => k_is)
    (case c21 => k_is); (case k21 => k_is); (case a22 => k_is); (case l22 => k_is); (case c22 => k_is); (case k22 => k_is)
    (case cx22 => k_is); (case cy22 => rfl); (case cz22 => rfl); (case cn22 => rfl); (case a23 => k_is); (case l23 => k_is)
    (case c23 => k_is); (case k23 => k_is); (case a24 => k_is); (case l24 => k_is); (case c24 => k_is); (case k24 => k_is)
    (case a25 => k_is); (case l25 => k_is); (case c25 => k_is); (case k25 => k_is); (case z_all => k_is); (case z_enumerate => k_is)
    (case z_int => k_is); (case z_isinstance => k_is); (case z_len => k_is); (case z_list => k_is); (case z_range => k_is); (case z_sorted => k_is)
    (case z_str => k_is); (case z_tuple => k_is); (case z_zip => k_is); (case c_LETTERS => k_is); (case c_LIMIT => k_is); (case xg_NotACode => k_is)
    (case xx_NotACode => k_exc); (case xk_NotACode => k_is); (case xb_NotACode => k_is); (case xt_NotACode => k_is); (case xg_NotAdmissible => k_is); (case xx_NotAdmissible => k_exc)
    (case xk_NotAdmissible => k_is); (case xb_NotAdmissible => k_is); (case xt_NotAdmissible => k_is); (case xg_TooLong => k_is); (case xx_TooLong => k_exc); (case xk_TooLong => k_is)
    (case xb_TooLong => k_is); (case xt_TooLong => k_is); (case dg_SWAPPED => k_is); (case dl_SWAPPED => k_is); (case dk_SWAPPED => repeat (first | exact trivial | refine ⟨⟨_, _, rfl, rfl⟩, ?_⟩)); (case dv0_SWAPPED => k_is)
    (case dv1_SWAPPED => k_is); (case dv2_SWAPPED => k_is); (case nq11 => decide)

