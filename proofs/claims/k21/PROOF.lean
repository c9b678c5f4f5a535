import PyProof.Rows.All
import Wide.All
import OpenK.AllK
import Wide.FinOn
import HandS.ForMost
import HandS.Wide
import HandS.Conv
import HandS.Evl
import KE.KDictWalk
import HandS.SlotsOwn
import HandS.Property
import HandS.Defaults
import HandS.More
import HandS.Codes
import HandS.IsInst
import HandS.Style
import HandS.Lambda
import HandS.CallLocal
import PyProof.StrOps2
import HandS.TryMany
import HandS.ExcInit
import HandS.ExcIs
import HandS.ExcField
import KE.KExcSuper
import HandS.Iter
import PyProof.ReprRoads
import KE.KDictCopyH
import HandS.ClsMeth
import HandS.Star
import HandS.WordsExc
import HandS.Text
import PyProof.Rows.StrSplitJoin
import KE.KCallOwn
import KE.KOpsOwn
import PyProof.StrLawsChain
import PyProof.Rows.StrItems
import HandS.DictComp
import PySem.Challenge.RW_foldplans_k21_tables_read
set_option Elab.async false
set_option linter.all false
set_option maxRecDepth 100000
set_option maxHeartbeats 4000000
/-! what the laws of this program share -/
namespace Fp
open PySem PySem.Spec PyProof.Rows L2

/-! ### defs of the text, by name -/
def Dn (P : Program) (w : World) (K : PySem.W.Frag) (mg : Str → Option Value) (base : Heap) (k : Nat) (x : Str) (ps : List Str) (sp : Sp) : Prop :=
  ∃ f fd, mg x = some (.ref f) ∧ PySem.W.keepIn K (.ref f) = true ∧ Binds K fd ps [] ∧ FnOk P w K mg base CX0 k f fd ps sp
section
variable {X : Cx} {k : Nat} {x : Str} {ps : List Str} {sp : Sp} {p pos : Pos} {e : Expr} {es : List Expr} {t : TA}
theorem pd (D : Dn X.prog X.w X.K X.mg X.base k x ps sp) (hr : Room k X.A) (hg : Gl X x) (ha : PA X (e :: es) t) (hdb : (x == ("__debug__" : Str)) = false := by decide)
    (he : starEach (e :: es) X.env = (false, eval e X.env) :: starEach es X.env := by rfl) (hpl : (backTo pos (starEach es X.env)).any (·.1) = false := by rfl) :
    PE X (.Call (.Name x p) (e :: es) [] pos) (tCall sp [] E0 t) := by
  obtain ⟨f, fd, h1, h2, h3, h4⟩ := D
  exact pe_call h4 hr hg h1 h2 h3 .nil pass0 ha hdb he hpl
theorem pd0 (D : Dn X.prog X.w X.K X.mg X.base k x ps sp) (hr : Room k X.A) (hg : Gl X x) (hdb : (x == ("__debug__" : Str)) = false := by decide) :
    PE X (.Call (.Name x p) [] [] pos) (tCall sp [] E0 tNil) := by
  obtain ⟨f, fd, h1, h2, h3, h4⟩ := D
  exact pe_call0 h4 hr hg h1 h2 h3 .nil pass0 hdb
end

/-! ### heaps -/
/-- all but the object at p stays -/
def But (p : Addr) (H H' : Hp) : Prop := (∀ b o, H b = some o → b ≠ p → H' b = some o) ∧ (H p ≠ none → H' p ≠ none)
theorem But.refl (p : Addr) (H : Hp) : But p H H := ⟨fun _ _ h _ => h, fun h => h⟩
theorem But.trans {p : Addr} {H H1 H2 : Hp} (a : But p H H1) (b : But p H1 H2) : But p H H2 := ⟨fun c o h n => b.1 c o (a.1 c o h n) n, fun h => b.2 (a.2 h)⟩
theorem But.of {p : Addr} {H H' : Hp} (e : Same H H') : But p H H' := ⟨fun b o h _ => e b o h, fun h => by
  cases q : H p with
  | none => exact absurd q h
  | some o => rw [e p o q]; intro z; cases z⟩
theorem But.free {p l : Addr} {H H' : Hp} (e : But p H H') (h : H' l = none) : H l = none := by
  cases q : H l with
  | none => rfl
  | some o =>
    by_cases hl : l = p
    · subst hl
      exact absurd h (e.2 (by rw [q]; intro z; cases z))
    · rw [e.1 l o q hl] at h
      cases h
theorem But.new {p q : Addr} {H H' : Hp} {o : HO} (e : But p H H') (h : H' q = none) : But p H (upd H' q o) := e.trans (But.of fun b u hb => by
  rw [upd_ne (ne_of_none hb h)]
  exact hb)
theorem Same.new {H H' : Hp} {q : Addr} {o : HO} (e : Same H H') (h : H' q = none) : Same H (upd H' q o) := fun b u hb => by
  have h1 := e b u hb
  rw [upd_ne (ne_of_none h1 h)]
  exact h1
theorem same_new {H : Hp} {q : Addr} {o : HO} (h : H q = none) : Same H (upd H q o) := Same.new (Same.refl H) h
/-- an object that H does not know may change -/
theorem Same.mut {H H' : Hp} {p : Addr} {o : HO} (e : Same H H') (h : H p = none) : Same H (upd H' p o) := fun a u ha => by
  rw [upd_ne (ne_of_none ha h)]
  exact e a u ha
theorem But.mut {p q : Addr} {H H' : Hp} {o : HO} (e : But p H H') (h : H q = none) : But p H (upd H' q o) := ⟨fun a u ha hp => by
  rw [upd_ne (ne_of_none ha h)]
  exact e.1 a u ha hp, fun hn => by
  by_cases z : p = q
  · subst z; exact absurd h hn
  · rw [upd_ne z]; exact e.2 hn⟩

/-! ### rules with one way -/
section
variable {X : Cx}
def rIntI : List V → Hp → VK → Prop := fun xs H Q => ∃ i, xs = [.int i] ∧ Q (.int i) H
theorem call_intI : CallR X (.type "int") rIntI := fun pins s σ H xs us Q I r h => call_int1 pins s σ H xs us Q I r (.inl h)
def rIntB : List V → Hp → VK → Prop := fun xs H Q => ∃ k, xs = [.bl k] ∧ Q (.int (if k then 1 else 0)) H
theorem call_intB : CallR X (.type "int") rIntB := fun pins s σ H xs us Q I r h => call_int1 pins s σ H xs us Q I r (.inr h)
def rLenL (K : PySem.W.Frag) : List V → Hp → VK → Prop := fun xs H Q => ∃ p ys, xs = [.ref p] ∧ SqL K H p ys ∧ Q (.int ys.length) H
theorem call_lenL : CallR X (.builtin "len") (rLenL X.K) := fun pins s σ H xs us Q I r h => by
  obtain ⟨p, ys, e, h1, q⟩ := h
  exact call_len_seq pins s σ H xs us Q I r ⟨p, ys, e, .inl h1, q⟩
def rListL (K : PySem.W.Frag) : List V → Hp → VK → Prop := fun xs H Q => ∃ p ys, xs = [.ref p] ∧ SqL K H p ys ∧ ∀ l, H l = none → Q (.ref l) (upd H l (.lst ys))
theorem call_listL : CallR X (.type "list") (rListL X.K) := fun pins s σ H xs us Q I r h => by
  obtain ⟨p, ys, e, h1, q⟩ := h
  exact call_list_of pins s σ H xs us Q I r ⟨p, ys, e, .inl h1, q⟩
def rListT (K : PySem.W.Frag) : List V → Hp → VK → Prop := fun xs H Q => ∃ p ys, xs = [.ref p] ∧ SqT K H p ys ∧ ∀ l, H l = none → Q (.ref l) (upd H l (.lst ys))
theorem call_listT : CallR X (.type "list") (rListT X.K) := fun pins s σ H xs us Q I r h => by
  obtain ⟨p, ys, e, h1, q⟩ := h
  exact call_list_of pins s σ H xs us Q I r ⟨p, ys, e, .inr h1, q⟩
def rAbs : List V → Hp → VK → Prop := fun xs H Q => ∃ i, xs = [.int i] ∧ Q (.int (if i < 0 then -i else i)) H
theorem call_absI : CallR X (.builtin "abs") rAbs := call_abs
end
/-! ### dicts by written keys -/
theorem dg_s {H : Hp} {a : Addr} {kvs : List (Key × V)} {z : Str} {v : V} {R : V → Prop} (h : H a = some (.dK kvs)) (hv : valV kvs (Sum.inr z) = some v) (q : R v) : ∃ x, DGet H a (.str z) (some x) ∧ R x :=
  ⟨v, by rw [← hv]; exact DGet.k (k := Sum.inr z) h, q⟩
theorem dp_s {H : Hp} {a : Addr} {kvs : List (Key × V)} {z : Str} {v : V} {R : Hp → Prop} (h : H a = some (.dK kvs)) (hl : kvs.length < sizeLine) (q : R (upd H a (.dK (putK kvs (Sum.inr z) v)))) : ∃ H', DPut H a (.str z) v H' ∧ R H' :=
  ⟨_, DPut.k (k := Sum.inr z) h hl, q⟩
/-! ### data -/
theorem dp_ints (K : PySem.W.Frag) (H : Hp) : ∀ ns : List Int, DpAll K H (ns.map V.int) (ns.map PyData.int)
  | [] => .nil
  | n :: r => .cons (.int n) (dp_ints K H r)
theorem dp_strs (K : PySem.W.Frag) (H : Hp) : ∀ ns : List Str, DpAll K H (ns.map V.str) (ns.map PyData.str)
  | [] => .nil
  | n :: r => .cons (.str n) (dp_strs K H r)
/-- a list and a new empty list -/
theorem ne_nil {K : PySem.W.Frag} {H : Hp} {p q : Addr} {xs : List V} {ds : List PyData} {Q : VK} (hp : SqL K H p xs) (hd : DpAll K H xs ds) (hs : SeqAt.shaped (.list ds) = true) (hq : H q = some (.lst [])) (k : Q (.bl (!xs.isEmpty)) H) :
    rNeD K (.ref p) (.ref q) H Q := by
  refine ⟨.list ds, .list [], .lst hp hd, .lst (.inl (.inl hq)) .nil, hs, by decide, ?_⟩
  cases hd with
  | nil => exact k
  | cons a b => exact k
theorem eq_nil {K : PySem.W.Frag} {H : Hp} {p q : Addr} {xs : List V} {ds : List PyData} {Q : VK} (hp : SqL K H p xs) (hd : DpAll K H xs ds) (hs : SeqAt.shaped (.list ds) = true) (hq : H q = some (.lst [])) (k : Q (.bl xs.isEmpty) H) :
    rEqD K (.ref p) (.ref q) H Q := by
  refine ⟨.list ds, .list [], .lst hp hd, .lst (.inl (.inl hq)) .nil, hs, by decide, ?_⟩
  cases hd with
  | nil => exact k
  | cons a b => exact k
def Shp (n : Nat) (d : PyData) : Prop := d.canLay0 = true ∧ d.depth ≤ n
theorem shp_all {n : Nat} : ∀ {ds : List PyData}, (∀ d ∈ ds, Shp n d) → PyData.canLayAll0 ds = true ∧ PyData.depthAll ds ≤ n
  | [], _ => ⟨rfl, Nat.zero_le _⟩
  | d :: r, h => by
    obtain ⟨h1, h2⟩ := shp_all (ds := r) fun x hx => h x (List.mem_cons_of_mem _ hx)
    obtain ⟨h3, h4⟩ := h d List.mem_cons_self
    exact ⟨by show (PyData.canLay0 d && PyData.canLayAll0 r) = true; rw [h1, h3]; rfl, Nat.max_le.mpr ⟨h4, h2⟩⟩
theorem shp_lst {n : Nat} {ds : List PyData} (h : ∀ d ∈ ds, Shp n d) : Shp (n + 1) (.list ds) := ⟨(shp_all h).1, Nat.succ_le_succ (shp_all h).2⟩
theorem shp_tup {n : Nat} {ds : List PyData} (h : ∀ d ∈ ds, Shp n d) : Shp (n + 1) (.tuple ds) := ⟨(shp_all h).1, Nat.succ_le_succ (shp_all h).2⟩
theorem shp_int (i : Int) : Shp 0 (.int i) := ⟨rfl, Nat.le_refl _⟩
theorem shp_bool (b : Bool) : Shp 0 (.bool b) := ⟨rfl, Nat.le_refl _⟩
theorem shp_non : Shp 0 .none := ⟨rfl, Nat.le_refl _⟩
theorem Shp.mono {n m : Nat} {d : PyData} (h : Shp n d) (hm : n ≤ m) : Shp m d := ⟨h.1, Nat.le_trans h.2 hm⟩
theorem Shp.ok {n : Nat} {d : PyData} (h : Shp n d) (hn : n ≤ 64) : SeqAt.shaped d = true := by
  show (d.canLay0 && decide (d.depth ≤ 64)) = true
  rw [h.1, decide_eq_true (Nat.le_trans h.2 hn)]
  rfl
theorem shaped_ints (ns : List Int) : SeqAt.shaped (.list (ns.map PyData.int)) = true := (shp_lst (n := 0) fun d hd => by
  obtain ⟨i, _, rfl⟩ := List.mem_map.mp hd
  exact shp_int i).ok (by decide)
theorem ix_mod {ns : List Int} {t : Int} (h0 : ns ≠ []) : ∃ v, atI (ns.map V.int) (t % ((ns.map V.int).length : Nat)) = some (.int v) := by
  have hl : 0 < ns.length := by cases ns with
    | nil => exact absurd rfl h0
    | cons x r => exact Nat.succ_pos _
  have h1 : 0 ≤ t % (ns.length : Int) := Int.emod_nonneg _ (by omega)
  have h2 : t % (ns.length : Int) < ns.length := Int.emod_lt_of_pos _ (by omega)
  rw [List.length_map]
  obtain ⟨j, hj⟩ : ∃ j : Nat, t % (ns.length : Int) = j := ⟨(t % (ns.length : Int)).toNat, by omega⟩
  rw [hj]
  have hjl : j < ns.length := by omega
  exact ⟨ns[j], atI_nat (by rw [List.getElem?_map, List.getElem?_eq_getElem hjl]; rfl)⟩
/-! ### slices -/
theorem cut_to (xs : List V) (k : Nat) : cutV xs none (some (k : Int)) = xs.take k := by
  unfold cutV
  rw [HT.sIx_none, show HT.sIx xs.length xs.length (some (k : Int)) = min k xs.length from HT.sIx_nat _ _ k]
  show List.take (min k xs.length) xs = List.take k xs
  rcases Nat.le_total k xs.length with h | h
  · rw [Nat.min_eq_left h]
  · rw [Nat.min_eq_right h, List.take_of_length_le h, List.take_of_length_le (Nat.le_refl _)]

/-! ### the pen -/
theorem s_ct : ¬ (("cells" : Str) = "turn") := by decide
theorem s_lt : ¬ (("left" : Str) = "turn") := by decide
theorem s_cl : ¬ (("cells" : Str) = "left") := by decide
theorem s_tl : ¬ (("turn" : Str) = "left") := by decide
theorem k_ct : ¬ ((Sum.inr ("cells" : Str) : Key) = Sum.inr ("turn" : Str)) := by decide
theorem k_cl : ¬ ((Sum.inr ("cells" : Str) : Key) = Sum.inr ("left" : Str)) := by decide
theorem k_tl : ¬ ((Sum.inr ("turn" : Str) : Key) = Sum.inr ("left" : Str)) := by decide
def penK (c : Addr) (turn left : Int) : List (Key × V) := [(Sum.inr "cells", .ref c), (Sum.inr "turn", .int turn), (Sum.inr "left", .int left)]
theorem pen_cells (c : Addr) (turn left : Int) : valV (penK c turn left) (Sum.inr "cells") = some (.ref c) := by
  unfold penK
  exact valV_pos rfl
theorem pen_turn (c : Addr) (turn left : Int) : valV (penK c turn left) (Sum.inr "turn") = some (.int turn) := by
  unfold penK
  rw [valV_neg k_ct, valV_pos rfl]
theorem pen_left (c : Addr) (turn left : Int) : valV (penK c turn left) (Sum.inr "left") = some (.int left) := by
  unfold penK
  rw [valV_neg k_cl, valV_neg k_tl, valV_pos rfl]
theorem pen_putT (c : Addr) (turn left x : Int) : putK (penK c turn left) (Sum.inr ("turn" : Str)) (.int x) = penK c x left := by
  unfold putK penK
  simp [s_ct, s_lt]
theorem pen_putL (c : Addr) (turn left x : Int) : putK (penK c turn left) (Sum.inr ("left" : Str)) (.int x) = penK c turn x := by
  unfold putK penK
  simp [s_cl, s_tl]
theorem pen_len (c : Addr) (turn left : Int) : (penK c turn left).length < sizeLine := small1000 (by show 3 ≤ 1000; decide)
/-- the dict at p, the list of cells at c -/
structure PenOk (H : Hp) (p c : Addr) (t : Nat) : Prop where
  ex : ∃ (cells : List Int) (turn left : Int), H p = some (.dK (penK c turn left)) ∧
    H c = some (.lst (cells.map V.int)) ∧ cells.length ≤ 63 ∧ 0 ≤ turn ∧ turn ≤ t
theorem PenOk.mono {H : Hp} {p c : Addr} {t t' : Nat} (h : PenOk H p c t) (ht : t ≤ t') : PenOk H p c t' := by
  obtain ⟨cells, turn, left, h1, h2, h3, h4, h5⟩ := h.ex
  exact ⟨cells, turn, left, h1, h2, h3, h4, by omega⟩
theorem PenOk.dict {H : Hp} {p c : Addr} {t : Nat} (h : PenOk H p c t) : ∃ kvs, H p = some (.dK kvs) := by
  obtain ⟨cells, turn, left, h1, _⟩ := h.ex
  exact ⟨_, h1⟩
theorem PenOk.cells {H : Hp} {p c : Addr} {t : Nat} (h : PenOk H p c t) : ∃ xs, H c = some (.lst xs) := by
  obtain ⟨cells, turn, left, h1, h2, _⟩ := h.ex
  exact ⟨_, h2⟩
theorem PenOk.same {H H' : Hp} {p c : Addr} {t : Nat} (h : PenOk H p c t) (e : Same H H') : PenOk H' p c t := by
  obtain ⟨cells, turn, left, h1, h2, h3, h4, h5⟩ := h.ex
  exact ⟨cells, turn, left, e _ _ h1, e _ _ h2, h3, h4, h5⟩
theorem PenOk.mut {H : Hp} {p c l : Addr} {o : HO} {t : Nat} (h : PenOk H p c t) (h1 : l ≠ p) (h2 : l ≠ c) : PenOk (upd H l o) p c t := by
  obtain ⟨cells, turn, left, g1, g2, h3, h4, h5⟩ := h.ex
  exact ⟨cells, turn, left, by rw [upd_ne h1.symm]; exact g1, by rw [upd_ne h2.symm]; exact g2, h3, h4, h5⟩

theorem lg_small {n : Nat} (h : n < 1000000) : ((n : Nat) : Int).natAbs.log2 < 9000 := by
  have := PySem.Flt.log2_lt_of (k := 20) (by decide) (show ((n : Nat) : Int).natAbs < 2 ^ 20 by rw [Int.natAbs_natCast]; omega)
  omega
def spPen (K : PySem.W.Frag) : Sp := fun vs H Q _ => ∃ (a : Addr) (ns : List Int), vs = [.ref a] ∧ SqL K H a (ns.map V.int) ∧ ns.length ≤ 63 ∧
  ∀ H' p c, H p = none → Same H H' → PenOk H' p c 0 → Q (.ref p) H'
def spDraw : Sp := fun vs H Q _ => ∃ (p c : Addr) (span : Int) (t : Nat), vs = [.ref p, .int span] ∧ PenOk H p c t ∧ t ≤ 1000000000 ∧ 0 < span ∧ span.natAbs.log2 < 9000 ∧
  ∀ (r : Int) H', 0 ≤ r → r < span → PenOk H' p c (t + 1) → But p H H' → Q (.int r) H'
end Fp

/-! the keys of a dict that the top has written, walked -/
namespace Fp
open PySem PySem.Spec PyProof.Rows L2
def keyTxt (e : DictEntry) : Option Str := match e.key with
  | .str x _ => some x
  | _ => none
/-- the dict at d stands in the written part, its keys are the texts zs -/
structure KKeys (K : PySem.W.Frag) (d : Addr) (zs : List Str) : Prop where
  ex : ∃ (es : Array DictEntry) (n : Nat), K.lookup d = some ⟨.type "dict", none, .dict es n, #[]⟩ ∧ es.toList.map keyTxt = zs.map some
  low : (d == sysModules) = false
theorem KKeys.at {K : PySem.W.Frag} {d : Addr} {zs : List Str} {es : Array DictEntry} {n : Nat} (h : es.toList.map keyTxt = zs.map some) : es.size = zs.length ∧ ∀ (i : Nat) (hi : i < es.size), ∃ z t, zs[i]? = some z ∧ es[i].key = .str z t := by
  have hl : es.size = zs.length := by
    have := congrArg List.length h
    rw [List.length_map, List.length_map] at this
    simpa using this
  refine ⟨hl, fun i hi => ?_⟩
  have hz : i < zs.length := hl ▸ hi
  have e := congrArg (fun l => l[i]?) h
  simp only [List.getElem?_map] at e
  rw [show es.toList[i]? = some es[i] by simp [hi], List.getElem?_eq_getElem hz] at e
  have e2 : keyTxt es[i] = some zs[i] := Option.some.inj e
  refine ⟨zs[i], ?_⟩
  unfold keyTxt at e2
  split at e2
  · rename_i x t hk
    exact ⟨t, List.getElem?_eq_getElem hz, by rw [hk, Option.some.inj e2]⟩
  · cases e2
/-- the keys in their order -/
def ItKK (zs : List Str) : It := ⟨fun i _ => i < zs.length, fun i H x H' => H' = H ∧ ∃ z, zs[i]? = some z ∧ x = .str z, fun i _ => zs.length ≤ i⟩
section
variable {P : Program} {w : World} {K : PySem.W.Frag} {tg : Expr}
theorem turn_kk {d it : Addr} {zs : List Str} {es : Array DictEntry} {n : Nat} (hl : K.lookup d = some ⟨.type "dict", none, .dict es n, #[]⟩) (hk : es.toList.map keyTxt = zs.map some) :
    Turn P w K tg (ItKK zs) [it] it (fun i h => h.IsKeyIter it d i es.size n) where
  mem := by simp
  obj := fun i h st b hb => by
    have e : b = it := by simpa using hb
    subst e
    obtain ⟨oi, e, c, dd⟩ := st
    exact ⟨oi, e, fun v z => by rw [dd] at z; cases z⟩
  keep := fun i h h' st k => st.at fun oi e => k it (by simp) oi e
  item := by
    intro X hP hw hK hc i pins s σ H E I hf st hg
    subst hP hw hK
    obtain ⟨f0, f1, f2, f3, f4, f5⟩ := hf it (by simp)
    obtain ⟨hs, hz⟩ := KKeys.at (K := X.K) (d := d) (n := n) hk
    have hi : i < es.size := by
      have : i < zs.length := hg
      omega
    obtain ⟨z, t, e1, e2⟩ := hz i hi
    have raw : s.heap.DictRaw d es n := ⟨_, I.kIn d _ hl, ⟨rfl, rfl, rfl⟩, rfl⟩
    refine wpAny_pyNext_keys_item_raw st raw hi fun h' st' sb => ?_
    have I1 : Inv X pins σ H { s with heap := h' } := I.turned (t' := s.toks) (fun b ob hb e => (sb.2 b hb).trans e) f0 f1 f3 f4 f5
    obtain ⟨oi, e, c, dd⟩ := id st'
    exact ⟨_, rfl, go_of (s := { s with heap := h' }) e c dd (by decide) ⟨.str z, H, I1, ⟨t, e2⟩, ⟨rfl, z, e1, rfl⟩, st', fun b hb => (hf b hb).1⟩⟩
  done := by
    intro X hP hw hK hc i pins s σ H E I hf st hg
    subst hP hw hK
    obtain ⟨f0, f1, f2, f3, f4, f5⟩ := hf it (by simp)
    obtain ⟨hs, hz⟩ := KKeys.at (K := X.K) (d := d) (n := n) hk
    have raw : s.heap.DictRaw d es n := ⟨_, I.kIn d _ hl, ⟨rfl, rfl, rfl⟩, rfl⟩
    have hi : es.size ≤ i := by
      have : zs.length ≤ i := hg
      omega
    exact wpAny_pyNext_keys_end_raw (I.ok.hd hc) st raw hi fun h' eb => ⟨rfl, I.turned (t' := s.toks) (fun b o hb e => eb b o hb e) f0 f1 f3 f4 f5⟩
  self := fun _ _ _ _ _ st h => wpAny_pyIter_keyiter st h
def iKK (K : PySem.W.Frag) (td : TE) : TI := fun σ H R => td σ H fun x H1 => ∃ d zs, x = .ref d ∧ KKeys K d zs ∧ R (ItKK zs) H1
theorem pi_kk {X : Cx} {e : Expr} {td : TE} (he : PE X e td) : PI X tg e (iKK X.K td) := by
  refine ⟨fun pins s σ H R I h => ?_⟩
  refine thn (he.run pins s σ H _ I h) fun u s1 ⟨x, H1, I1, rx, d, zs, ex, ⟨⟨es, n, hl, hk⟩, low⟩, q⟩ => ?_
  subst ex
  obtain rfl : u = Value.ref d := rx
  have raw : s1.heap.DictRaw d es n := ⟨_, I1.kIn d _ hl, ⟨rfl, rfl, rfl⟩, rfl⟩
  exact wpAny_pyIter_dict_raw low raw (pi_one (tk := s1.toks) I1 _ (turn_kk hl hk) ⟨_, Heap.get?_push_size _ rfl, rfl, rfl⟩ q)
end
end Fp

/-! operators and methods that a class of the text defines -/
namespace Fp
open PySem PySem.Spec PyProof.Rows L2
/-- the def m of the class at C -/
def Mn (P : Program) (w : World) (K : PySem.W.Frag) (mg : Str → Option Value) (base : Heap) (k : Nat) (C : Addr) (m : Str) (ps : List Str) (sp : Sp) : Prop :=
  ∃ g fd, Meth K C m g ∧ Binds K fd ps [] ∧ FnOk P w K mg base CX0 k g fd ps sp
section
variable {X : Cx} {k : Nat} {C : Addr} {m : Str} {ps : List Str} {sp : Sp}
theorem pm {pl : Sem Bool} {o e : Expr} {es : List Expr} {pos apos : Pos} {ta : TE} {t : TA} (c : Cls X.K C) (M : Mn X.prog X.w X.K X.mg X.base k C m ps sp) (hr : Room k X.A) (he : PE X o ta) (ha : PA X (e :: es) t)
    (hst : starEach (e :: es) X.env = (false, eval e X.env) :: starEach es X.env := by rfl) (hpl : (backTo pos (starEach es X.env)).any (·.1) = false := by rfl)
    (ht : eval (.Call (.Attribute o m apos) (e :: es) [] pos) X.env = (do
      let ov ← eval o X.env
      standAt apos.atName
      let (f, first) ← holding [ov] (getMethod ov m pl)
      callWith pos f first (backTo pos (starEach (e :: es) X.env)) (backToKw pos (keywordEach [] X.env))) := by rfl) :
    PE X (.Call (.Attribute o m apos) (e :: es) [] pos) (tMeth C m sp [] E0 ta t) := by
  obtain ⟨g, fd, h1, h2, h3⟩ := M
  exact pe_meth he c h1 h3 hr h2 .nil pass0 ha hst hpl ht
theorem pm0 {pl : Sem Bool} {o : Expr} {pos apos : Pos} {ta : TE} (c : Cls X.K C) (M : Mn X.prog X.w X.K X.mg X.base k C m ps sp) (hr : Room k X.A) (he : PE X o ta)
    (ht : eval (.Call (.Attribute o m apos) [] [] pos) X.env = (do
      let ov ← eval o X.env
      standAt apos.atName
      let (f, first) ← holding [ov] (getMethod ov m pl)
      callWith pos f first (backTo pos (starEach [] X.env)) (backToKw pos (keywordEach [] X.env))) := by rfl) :
    PE X (.Call (.Attribute o m apos) [] [] pos) (tMeth C m sp [] E0 ta tNil) := by
  obtain ⟨g, fd, h1, h2, h3⟩ := M
  exact pe_meth0 he c h1 h3 hr h2 .nil pass0 ht
/-- the class x of the text, made by its __init__ -/
def Kn (P : Program) (w : World) (K : PySem.W.Frag) (mg : Str → Option Value) (base : Heap) (k : Nat) (C : Addr) (ps : List Str) (sp : Sp) : Prop :=
  ∃ g fd, Mk K C g ∧ Binds K fd ps [] ∧ FnOk P w K mg base CX0 k g fd ps sp
theorem pk {x : Str} {e : Expr} {es : List Expr} {p pos : Pos} {t : TA} (M : Kn X.prog X.w X.K X.mg X.base k C ps sp) (hr : Room (k + 1) X.A) (hg : Gl X x) (hm : X.mg x = some (.ref C)) (ha : PA X (e :: es) t)
    (hdb : (x == ("__debug__" : Str)) = false := by decide) (he : starEach (e :: es) X.env = (false, eval e X.env) :: starEach es X.env := by rfl) (hpl : (backTo pos (starEach es X.env)).any (·.1) = false := by rfl) :
    PE X (.Call (.Name x p) (e :: es) [] pos) (tMake C sp [] E0 t) := by
  obtain ⟨g, fd, h1, h2, h3⟩ := M
  exact pe_make h1 h3 hr hg hm h2 .nil pass0 ha hdb he hpl
/-- a property of the class at C -/
def Pn (P : Program) (w : World) (K : PySem.W.Frag) (mg : Str → Option Value) (base : Heap) (k : Nat) (C : Addr) (f : Str) (sp : Sp) : Prop :=
  ∃ p g fd ps, PropOf K C f p g ∧ Binds K fd ps [] ∧ FnOk P w K mg base CX0 k g fd ps sp
theorem pq {f : Str} {e : Expr} {pos : Pos} {ta : TE} (c : Cls X.K C) (M : Pn X.prog X.w X.K X.mg X.base k C f sp) (hr : Room (k + 1) X.A) (he : PE X e ta) (hab : attributeBase e f X.env (eval e X.env) = eval e X.env := by rfl) :
    PE X (.Attribute e f pos) (tProp C sp [] E0 ta) := by
  obtain ⟨p, g, fd, ps, h1, h2, h3⟩ := M
  exact pe_prop he c h1 h3 hr h2 .nil pass0 hab
theorem inst_of {pins : List (Addr × Obj)} {σ : L2.St} {H : Hp} {s : Shared} {a dx : Addr} {fs : List (Str × V)} (I : Inv X pins σ H s) (e : H a = some (.ins C dx fs)) : ∃ od, PySem.W.InstAt s.heap a (PySem.W.instObj C dx) C (some od) := by
  obtain ⟨mA, O, _⟩ := ins_get I.hok e
  obtain ⟨od, J, _⟩ := O.look
  exact ⟨od, J⟩
/-- v in x, x an instance of the class at C -/
def rOwnIn (C : Addr) (neg : Bool) (sp : Sp) : R2 := fun x y H Q => ∃ a dx fs, y = .ref a ∧ H a = some (.ins C dx fs) ∧ sp [.ref a, x] H (fun v H' => ∃ b, v = .bl b ∧ Q (.bl (if neg then !b else b)) H') E0
theorem op_ownIn (M : Mn X.prog X.w X.K X.mg X.base k C "__contains__" ps sp) (hr : Room k X.A) : OpR X (compareOp .In) (rOwnIn C false sp) := by
  intro pins s σ H x y v u Q I rx ry h
  obtain ⟨a, dx, fs, rfl, ha, q⟩ := h
  obtain rfl : u = Value.ref a := ry
  obtain ⟨g, fd, h1, h2, h3⟩ := M
  obtain ⟨od, J⟩ := inst_of I ha
  obtain ⟨m, hF⟩ := I.fr
  refine PySem.W.in_K hF I.ok.mod.kin J h1.at_ h1.fn ?_
  refine wpAny_mono (run_fn (us := [.ref a, v]) (vs := [.ref a, x]) (dvs := []) h3 hr h2 .nil pass0 I (.cons rfl (.cons rx .nil)) q) (fun w s' z => ?_) fun _ _ x => x
  obtain ⟨z', H', I', rz, b, rfl, qz⟩ := z
  cases rz
  exact wpAny_truthy_bool ⟨.bl b, H', I', rfl, qz⟩
theorem op_ownNotIn (M : Mn X.prog X.w X.K X.mg X.base k C "__contains__" ps sp) (hr : Room k X.A) : OpR X (compareOp .NotIn) (rOwnIn C true sp) := by
  intro pins s σ H x y v u Q I rx ry h
  obtain ⟨a, dx, fs, rfl, ha, q⟩ := h
  obtain rfl : u = Value.ref a := ry
  obtain ⟨g, fd, h1, h2, h3⟩ := M
  obtain ⟨od, J⟩ := inst_of I ha
  obtain ⟨m, hF⟩ := I.fr
  refine PySem.W.notIn_K hF I.ok.mod.kin J h1.at_ h1.fn ?_
  refine wpAny_mono (run_fn (us := [.ref a, v]) (vs := [.ref a, x]) (dvs := []) h3 hr h2 .nil pass0 I (.cons rfl (.cons rx .nil)) q) (fun w s' z => ?_) fun _ _ x => x
  obtain ⟨z', H', I', rz, b, rfl, qz⟩ := z
  cases rz
  exact wpAny_truthy_bool ⟨.bl (!b), H', I', rfl, qz⟩
/-- x op y, both instances of the class at C, a comparison -/
def rOwn2 (C : Addr) (sp : Sp) : R2 := fun x y H Q => ∃ a dx fs b dy gs, x = .ref a ∧ y = .ref b ∧ H a = some (.ins C dx fs) ∧ H b = some (.ins C dy gs) ∧ sp [.ref a, .ref b] H Q E0
theorem op_ownCmp {op : CmpOp} (hop : ∀ a b, compareOp op a b = richCompare op a b) (hn : PySem.W.notFirst X.K C (.ref C) = true) (M : Mn X.prog X.w X.K X.mg X.base k C (cmpInfo op).2.1 ps sp) (hr : Room k X.A) : OpR X (compareOp op) (rOwn2 C sp) := by
  intro pins s σ H x y v u Q I rx ry h
  obtain ⟨a, dx, fs, b, dy, gs, rfl, rfl, ha, hb, q⟩ := h
  obtain rfl : v = Value.ref a := rx
  obtain rfl : u = Value.ref b := ry
  obtain ⟨g, fd, h1, h2, h3⟩ := M
  obtain ⟨od, J⟩ := inst_of I ha
  obtain ⟨od', J'⟩ := inst_of I hb
  obtain ⟨m, hF⟩ := I.fr
  rw [hop]
  refine PySem.W.cmp_K (op := op) (tb := .ref C) hr.units0 hF I.ok.mod.kin J J'.type hn h1.at_ h1.fn ?_
  refine wpAny_mono (run_fn (us := [.ref a, .ref b]) (vs := [.ref a, .ref b]) (dvs := []) h3 hr h2 .nil pass0 I (.cons rfl (.cons rfl .nil)) q) (fun w s' z => ?_) fun _ _ x => x
  obtain ⟨z', H', I', rz, qz⟩ := z
  exact SlX.cmpback rz ⟨z', H', I', rz, qz⟩
theorem op_ownBin {op : Operator} (hc : PySem.W.selfFirst X.K C = true) (M : Mn X.prog X.w X.K X.mg X.base k C (PySem.dunder op.info.2) ps sp) (hr : Room k X.A) : OpR X (binaryOp op) (rOwn2 C sp) := by
  intro pins s σ H x y v u Q I rx ry h
  obtain ⟨a, dx, fs, b, dy, gs, rfl, rfl, ha, hb, q⟩ := h
  obtain rfl : v = Value.ref a := rx
  obtain rfl : u = Value.ref b := ry
  obtain ⟨g, fd, h1, h2, h3⟩ := M
  obtain ⟨od, J⟩ := inst_of I ha
  obtain ⟨od', J'⟩ := inst_of I hb
  obtain ⟨m, hF⟩ := I.fr
  refine PySem.W.binop_K (op := op) hF I.ok.mod.kin J J'.type hc h1.at_ h1.fn ?_
  refine wpAny_mono (run_fn (us := [.ref a, .ref b]) (vs := [.ref a, .ref b]) (dvs := []) h3 hr h2 .nil pass0 I (.cons rfl (.cons rfl .nil)) q) (fun w s' z => ?_) fun _ _ x => x
  obtain ⟨z', H', I', rz, qz⟩ := z
  exact SlX.cmpback rz ⟨z', H', I', rz, qz⟩
end
end Fp

/-! loops and comprehensions over a row of values -/
namespace Fp
open PySem PySem.Spec PyProof.Rows L2
/-- the iterator gives the values xs, one a turn, while S holds of the heap -/
structure JSeq (J : It) (xs : List V) (S : Hp → Prop) : Prop where
  go : ∀ i H, S H → i < xs.length → J.go i H
  yld : ∀ i H x H', S H → i < xs.length → J.yld i H x H' → H' = H ∧ xs[i]? = some x
  stop : ∀ i H, S H → xs.length ≤ i → J.stop i H
  same : ∀ H H', S H → Same H H' → S H'
theorem jseq_list (K : PySem.W.Frag) (a : Addr) (xs : List V) : JSeq (Itl K a) xs (fun H => SqL K H a xs) :=
  ⟨fun i H h hi => ⟨xs, xs[i], h, List.getElem?_eq_getElem hi⟩, fun i H x H' h _ y => ⟨y.1, y.2 xs h⟩, fun i H h hi => ⟨xs, h, hi⟩, fun H H' h e => e.seq h⟩
theorem same_tup {K : PySem.W.Frag} {H H' : Hp} {a : Addr} {xs : List V} (e : Same H H') (h : SqT K H a xs) : SqT K H' a xs := by
  rcases h with (h | ⟨o, h⟩) | h
  · exact .inl (.inl (e _ _ h))
  · exact .inl (.inr ⟨o, e _ _ h⟩)
  · exact .inr h
theorem jseq_tup (K : PySem.W.Frag) (a : Addr) (xs : List V) : JSeq (Itt K a) xs (fun H => SqT K H a xs) :=
  ⟨fun i H h hi => ⟨xs, xs[i], h, List.getElem?_eq_getElem hi⟩, fun i H x H' h _ y => ⟨y.1, y.2 xs h⟩, fun i H h hi => ⟨xs, h, hi⟩, fun H H' h e => same_tup e h⟩
theorem jseq_kk (zs : List Str) : JSeq (ItKK zs) (zs.map V.str) (fun _ => True) :=
  ⟨fun i H h hi => by rw [List.length_map] at hi; exact hi, fun i H x H' h _ y => by
    obtain ⟨e, z, h1, rfl⟩ := y
    exact ⟨e, by rw [List.getElem?_map, h1]; rfl⟩, fun i H h hi => by rw [List.length_map] at hi; exact hi, fun _ _ h _ => h⟩
def rngV (lo : Int) (n : Nat) : List V := (List.range n).map fun (i : Nat) => V.int (lo + i)
theorem rngV_len (lo : Int) (n : Nat) : (rngV lo n).length = n := by
  unfold rngV
  rw [List.length_map, List.length_range]
theorem rngV_at {lo : Int} {n i : Nat} (h : i < n) : (rngV lo n)[i]? = some (.int (lo + i)) := by
  unfold rngV
  rw [List.getElem?_map, List.getElem?_range h]
  rfl
theorem jseq_rng (lo : Int) (n : Nat) : JSeq (Itr lo n) (rngV lo n) (fun _ => True) :=
  ⟨fun i H _ hi => by rw [rngV_len] at hi; exact hi, fun i H x H' _ hi y => by
    obtain ⟨h1, h2⟩ := y
    rw [rngV_len] at hi
    exact ⟨h1, by rw [rngV_at hi, h2]⟩, fun i H _ hi => by rw [rngV_len] at hi; exact hi, fun _ _ h _ => h⟩

/-! ### the walk, once the iterator is there -/
def LcG (J : It) (g : TG) (tt : TT) (te : TE) (vs : List Nat) (σ : L2.St) (H : Hp) (Q : VK) : Prop := tLc (fun _ H R => R J H) g tt te vs σ H Q
def ForG (J : It) (g : TG) (tb : TS) (D : Ends) (σ : L2.St) (H : Hp) : Prop := tFor (fun _ H R => R J H) g tb D σ H
section
variable {K : PySem.W.Frag} {tl : TE} {ta : TA} {g : TG} {tt : TT} {te : TE} {tb : TS} {D : Ends} {vs : List Nat} {σ : L2.St} {H : Hp} {Q : VK}
theorem lc_iL : tLc (iList K tl) g tt te vs σ H Q = tl σ H (fun x H1 => ∃ a, x = .ref a ∧ (∃ xs, SqL K H1 a xs) ∧ LcG (Itl K a) g tt te vs σ H1 Q) := rfl
theorem lc_iT : tLc (iTup K tl) g tt te vs σ H Q = tl σ H (fun x H1 => ∃ a, x = .ref a ∧ (∃ xs, SqT K H1 a xs) ∧ LcG (Itt K a) g tt te vs σ H1 Q) := rfl
theorem lc_iK : tLc (iKK K tl) g tt te vs σ H Q = tl σ H (fun x H1 => ∃ d zs, x = .ref d ∧ KKeys K d zs ∧ LcG (ItKK zs) g tt te vs σ H1 Q) := rfl
theorem lc_iR : tLc (iRng1 ta) g tt te vs σ H Q = ta σ H (fun zs H1 => ∃ j : Int, zs = [.int j] ∧ -(2 ^ 62) ≤ j ∧ j < 2 ^ 62 ∧ LcG (Itr 0 j.toNat) g tt te vs σ H1 Q) := rfl
theorem fr_iL : tFor (iList K tl) g tb D σ H = tl σ H (fun x H1 => ∃ a, x = .ref a ∧ (∃ xs, SqL K H1 a xs) ∧ ForG (Itl K a) g tb D σ H1) := rfl
theorem fr_iT : tFor (iTup K tl) g tb D σ H = tl σ H (fun x H1 => ∃ a, x = .ref a ∧ (∃ xs, SqT K H1 a xs) ∧ ForG (Itt K a) g tb D σ H1) := rfl
theorem fr_iR : tFor (iRng1 ta) g tb D σ H = ta σ H (fun zs H1 => ∃ j : Int, zs = [.int j] ∧ -(2 ^ 62) ≤ j ∧ j < 2 ^ 62 ∧ ForG (Itr 0 j.toNat) g tb D σ H1) := rfl
variable {J : It} {xs : List V} {S : Hp → Prop}
/-- a comprehension by a word P of: the turn, the list so far (it stands at D), the heap -/
theorem lcg_by (hJ : JSeq J xs S) (P : Addr → Nat → List V → Hp → Prop) (h0 : ∀ D, H D = none → P D 0 [] (upd H D (.lst [])))
    (hP : ∀ D i acc H', H D = none → i ≤ xs.length → P D i acc H' → S H')
    (hs : ∀ D i x acc H', H D = none → xs[i]? = some x → P D i acc H' → g x (wipe σ vs) H' fun σ2 H2 => wipe σ2 vs = wipe σ vs ∧ tt σ2 H2 fun b H3 =>
      if b = true then te σ2 H3 fun y H4 => ∃ acc, H4 D = some (.lst acc) ∧ acc.length < sizeLine ∧ (∃ acc', P D (i + 1) acc' (upd H4 D (.lst (acc ++ [y])))) else ∃ acc', P D (i + 1) acc' H3)
    (hd : ∀ D acc H', H D = none → P D xs.length acc H' → Q (.ref D) H') : LcG J g tt te vs σ H Q := by
  intro D hD
  refine ⟨fun i m H' => m = xs.length - i ∧ i ≤ xs.length ∧ ∃ acc, P D i acc H', ⟨xs.length, by simp, Nat.zero_le _, [], h0 D hD⟩, ?_⟩
  rintro i m H' ⟨rfl, hi, acc, p⟩
  have hS := hP D i acc H' hD hi p
  by_cases hlt : i < xs.length
  · refine .inr ⟨hJ.go i H' hS hlt, fun H'' => ∃ acc, P D (i + 1) acc H'', fun H'' ⟨acc', p'⟩ => ⟨xs.length - (i + 1), by omega, rfl, hlt, acc', p'⟩, fun x H'' y => ?_⟩
    obtain ⟨rfl, hx⟩ := hJ.yld i H' x H'' hS hlt y
    exact hs D i x acc _ hD hx p
  · have e : i = xs.length := by omega
    subst e
    exact .inl ⟨hJ.stop _ H' hS (Nat.le_refl _), hd D acc H' hD p⟩
theorem filter_map_take {fb : V → Bool} {fv : V → V} {i : Nat} {x : V} (hx : xs[i]? = some x) :
    ((xs.take (i + 1)).filter fb).map fv = ((xs.take i).filter fb).map fv ++ (if fb x = true then [fv x] else []) := by
  rw [List.take_add_one, hx, List.filter_append, List.map_append]
  cases h : fb x with
  | true => simp [h]
  | false => simp [h]
/-- a comprehension whose tests and items change nothing that stands -/
theorem lcg_pure (hJ : JSeq J xs S) (hS : S H) (hz : xs.length < 100000) (fb : V → Bool) (fv : V → V)
    (hs : ∀ x, x ∈ xs → ∀ H', Same H H' → ∀ (R1 : V → Hp → Prop) (R0 : Hp → Prop), (fb x = true → ∀ H'', Same H' H'' → R1 (fv x) H'') → (fb x = false → ∀ H'', Same H' H'' → R0 H'') →
      g x (wipe σ vs) H' fun σ2 H2 => wipe σ2 vs = wipe σ vs ∧ tt σ2 H2 fun b H3 => if b = true then te σ2 H3 R1 else R0 H3)
    (hd : ∀ D H', H D = none → Same H H' → H' D = some (.lst ((xs.filter fb).map fv)) → Q (.ref D) H') : LcG J g tt te vs σ H Q := by
  refine lcg_by hJ (fun D i acc H' => Same H H' ∧ H' D = some (.lst acc) ∧ acc = ((xs.take i).filter fb).map fv) (fun D hD => ⟨same_new hD, upd_same, rfl⟩)
    (fun D i acc H' _ _ p => hJ.same _ _ hS p.1) (fun D i x acc H' hD hx p => ?_) (fun D acc H' hD p => ?_)
  · obtain ⟨p1, p2, rfl⟩ := p
    have hi : i < xs.length := (List.getElem?_eq_some_iff.mp hx).1
    refine hs x (List.mem_of_getElem? hx) H' p1 _ _ (fun hb H'' e => ?_) (fun hb H'' e => ?_)
    · refine ⟨((xs.take i).filter fb).map fv, e _ _ p2, ?_, _, Same.mut (p1.trans e) hD, upd_same, ?_⟩
      · refine Nat.lt_of_lt_of_le (Nat.lt_of_le_of_lt (?_ : _ ≤ xs.length) hz) (by decide)
        rw [List.length_map]
        exact Nat.le_trans (List.length_filter_le _ _) (by rw [List.length_take]; exact Nat.min_le_right _ _)
      · rw [filter_map_take hx, if_pos hb]
    · refine ⟨_, p1.trans e, e _ _ p2, ?_⟩
      rw [filter_map_take hx, if_neg (by rw [hb]; decide), List.append_nil]
  · obtain ⟨p1, p2, rfl⟩ := p
    rw [List.take_length] at p2
    exact hd D H' hD p1 p2
/-- a for by a word P of: the turn, the slots, the heap -/
theorem forg_by (hJ : JSeq J xs S) (P : Nat → L2.St → Hp → Prop) (h0 : P 0 σ H) (hP : ∀ i σ' H', i ≤ xs.length → P i σ' H' → S H')
    (hs : ∀ i x σ' H', xs[i]? = some x → P i σ' H' → g x σ' H' fun σ2 H2 => tb { D with nx := P (i + 1), ct := P (i + 1), bk := D.nx } σ2 H2) (hd : ∀ σ' H', P xs.length σ' H' → D.nx σ' H') : ForG J g tb D σ H := by
  refine ⟨fun i m σ' H' => m = xs.length - i ∧ i ≤ xs.length ∧ P i σ' H', ⟨xs.length, by simp, Nat.zero_le _, h0⟩, ?_⟩
  rintro i m σ' H' ⟨rfl, hi, p⟩
  have hS := hP i σ' H' hi p
  by_cases hlt : i < xs.length
  · refine .inr ⟨hJ.go i H' hS hlt, P (i + 1), fun σ'' H'' p' => ⟨xs.length - (i + 1), by omega, rfl, hlt, p'⟩, fun x H'' y => ?_⟩
    obtain ⟨rfl, hx⟩ := hJ.yld i H' x H'' hS hlt y
    exact hs i x σ' _ hx p
  · have e : i = xs.length := by omega
    subst e
    exact .inl ⟨hJ.stop _ H' hS (Nat.le_refl _), hd σ' H' p⟩
end
end Fp

/-! data that stands in the heap: lists and tuples of ints, texts, bools, None, nested -/
namespace Fp
open PySem PySem.Spec PyProof.Rows L2
mutual
inductive Dt (H : Hp) : V → PyData → Prop
  | non : Dt H .non .none
  | bl (b : Bool) : Dt H (.bl b) (.bool b)
  | int (i : Int) : Dt H (.int i) (.int i)
  | str (x : Str) : Dt H (.str x) (.str x)
  | lst {a : Addr} {xs : List V} {ds : List PyData} : H a = some (.lst xs) → Dts H xs ds → Dt H (.ref a) (.list ds)
  | tup {a : Addr} {xs : List V} {ds : List PyData} : H a = some (.tup xs) → Dts H xs ds → Dt H (.ref a) (.tuple ds)
inductive Dts (H : Hp) : List V → List PyData → Prop
  | nil : Dts H [] []
  | cons {v : V} {vs : List V} {d : PyData} {ds : List PyData} : Dt H v d → Dts H vs ds → Dts H (v :: vs) (d :: ds)
end
mutual
theorem Dt.same {H H' : Hp} (e : Same H H') : ∀ {d : PyData} {v : V}, Dt H v d → Dt H' v d
  | .none, _, .non => .non
  | .bool _, _, .bl b => .bl b
  | .int _, _, .int i => .int i
  | .str _, _, .str x => .str x
  | .list ds, _, .lst h t => .lst (e _ _ h) (Dts.same e t)
  | .tuple ds, _, .tup h t => .tup (e _ _ h) (Dts.same e t)
theorem Dts.same {H H' : Hp} (e : Same H H') : ∀ {ds : List PyData} {vs : List V}, Dts H vs ds → Dts H' vs ds
  | [], _, .nil => .nil
  | _ :: _, _, .cons h t => .cons (Dt.same e h) (Dts.same e t)
end
mutual
/-- a dict that changes is no part of data -/
theorem Dt.but {H H' : Hp} {p : Addr} {kvs : List (Key × V)} (hp : H p = some (.dK kvs)) (e : But p H H') : ∀ {d : PyData} {v : V}, Dt H v d → Dt H' v d
  | .none, _, .non => .non
  | .bool _, _, .bl b => .bl b
  | .int _, _, .int i => .int i
  | .str _, _, .str x => .str x
  | .list ds, _, .lst h t => .lst (e.1 _ _ h (ne_of h hp (by intro z; cases z))) (Dts.but hp e t)
  | .tuple ds, _, .tup h t => .tup (e.1 _ _ h (ne_of h hp (by intro z; cases z))) (Dts.but hp e t)
theorem Dts.but {H H' : Hp} {p : Addr} {kvs : List (Key × V)} (hp : H p = some (.dK kvs)) (e : But p H H') : ∀ {ds : List PyData} {vs : List V}, Dts H vs ds → Dts H' vs ds
  | [], _, .nil => .nil
  | _ :: _, _, .cons h t => .cons (Dt.but hp e h) (Dts.but hp e t)
end
mutual
theorem Dt.dp {K : PySem.W.Frag} {H : Hp} : ∀ {d : PyData} {v : V}, Dt H v d → Dp K H v d
  | .none, _, .non => .non
  | .bool _, _, .bl b => .bl b
  | .int _, _, .int i => .int i
  | .str _, _, .str x => .str x
  | .list ds, _, .lst h t => .lst (.inl (.inl h)) (Dts.dp t)
  | .tuple ds, _, .tup h t => .tup (.inl (.inl h)) (Dts.dp t)
theorem Dts.dp {K : PySem.W.Frag} {H : Hp} : ∀ {ds : List PyData} {vs : List V}, Dts H vs ds → DpAll K H vs ds
  | [], _, .nil => .nil
  | _ :: _, _, .cons h t => .cons (Dt.dp h) (Dts.dp t)
end
theorem Dts.len {H : Hp} : ∀ {ds : List PyData} {vs : List V}, Dts H vs ds → vs.length = ds.length
  | _, _, .nil => rfl
  | _, _, .cons _ t => by rw [List.length_cons, List.length_cons, Dts.len t]
theorem Dts.app {H : Hp} : ∀ {ds es : List PyData} {vs ws : List V}, Dts H vs ds → Dts H ws es → Dts H (vs ++ ws) (ds ++ es)
  | _, _, _, _, .nil, s => s
  | _, _, _, _, .cons h t, s => .cons h (Dts.app t s)
theorem Dts.get {H : Hp} : ∀ {ds : List PyData} {vs : List V} {i : Nat} {d : PyData}, Dts H vs ds → ds[i]? = some d → ∃ v, vs[i]? = some v ∧ Dt H v d
  | _, _, i, d, .nil, h => by simp at h
  | _, _, 0, d, .cons h t, e => by cases e; exact ⟨_, rfl, h⟩
  | _, _, i + 1, d, .cons h t, e => Dts.get (i := i) t e
theorem Dts.erase {H : Hp} : ∀ {ds : List PyData} {vs : List V} (i : Nat), Dts H vs ds → Dts H (vs.eraseIdx i) (ds.eraseIdx i)
  | _, _, _, .nil => .nil
  | _, _, 0, .cons _ t => t
  | _, _, i + 1, .cons h t => .cons h (Dts.erase i t)
theorem Dts.strs {H : Hp} : ∀ {zs : List Str} {vs : List V}, Dts H vs (zs.map PyData.str) → vs = zs.map V.str
  | [], _, .nil => rfl
  | z :: r, _, .cons (.str _) t => by rw [Dts.strs t]; rfl
theorem Dts.ints {H : Hp} : ∀ {zs : List Int} {vs : List V}, Dts H vs (zs.map PyData.int) → vs = zs.map V.int
  | [], _, .nil => rfl
  | z :: r, _, .cons (.int _) t => by rw [Dts.ints t]; rfl
theorem dts_strs {H : Hp} : ∀ zs : List Str, Dts H (zs.map V.str) (zs.map PyData.str)
  | [] => .nil
  | z :: r => .cons (.str z) (dts_strs r)
theorem dts_ints {H : Hp} : ∀ zs : List Int, Dts H (zs.map V.int) (zs.map PyData.int)
  | [] => .nil
  | z :: r => .cons (.int z) (dts_ints r)

theorem Dt.pair {H : Hp} {v : V} {d e : PyData} (h : Dt H v (.tuple [d, e])) : ∃ a x y, v = .ref a ∧ H a = some (.tup [x, y]) ∧ Dt H x d ∧ Dt H y e := by
  cases h with
  | tup h1 t1 =>
    cases t1 with
    | cons h2 t2 =>
      cases t2 with
      | cons h3 t3 =>
        cases t3
        exact ⟨_, _, _, rfl, h1, h2, h3⟩
theorem Dt.txt {H : Hp} {v : V} {z : Str} (h : Dt H v (.str z)) : v = .str z := by
  cases h
  rfl
theorem Dt.num {H : Hp} {v : V} {z : Int} (h : Dt H v (.int z)) : v = .int z := by
  cases h
  rfl
theorem Dt.list {H : Hp} {v : V} {ds : List PyData} (h : Dt H v (.list ds)) : ∃ a xs, v = .ref a ∧ H a = some (.lst xs) ∧ Dts H xs ds := by
  cases h with
  | lst h1 t1 => exact ⟨_, _, rfl, h1, t1⟩
theorem Dt.tuple {H : Hp} {v : V} {ds : List PyData} (h : Dt H v (.tuple ds)) : ∃ a xs, v = .ref a ∧ H a = some (.tup xs) ∧ Dts H xs ds := by
  cases h with
  | tup h1 t1 => exact ⟨_, _, rfl, h1, t1⟩

/-! ### what evaluates to data, leaving all that stands -/
def EvD (te : TE) (σ : L2.St) (H : Hp) (d : PyData) : Prop := ∀ H1, Same H H1 → ∀ Q : VK, (∀ v H2, Same H1 H2 → Dt H2 v d → Q v H2) → te σ H1 Q
def EvDs (ta : TA) (σ : L2.St) (H : Hp) (ds : List PyData) : Prop := ∀ H1, Same H H1 → ∀ Q : List V → Hp → Prop, (∀ vs H2, Same H1 H2 → Dts H2 vs ds → Q vs H2) → ta σ H1 Q
section
variable {K : PySem.W.Frag} {σ : L2.St} {H H' : Hp} {ta tb te : TE} {tr : TA} {d e : PyData} {ds es : List PyData}
theorem d_str {z : Str} : EvD (tC (.str z)) σ H (.str z) := fun H1 _ Q q => q _ H1 (Same.refl _) (.str z)
theorem d_int {z : Int} : EvD (tC (.int z)) σ H (.int z) := fun H1 _ Q q => q _ H1 (Same.refl _) (.int z)
theorem d_non : EvD (tC .non) σ H .none := fun H1 _ Q q => q _ H1 (Same.refl _) .non
theorem d_var {i : Nat} {v : V} (h : σ[i]? = some (some v)) (hd : Dt H v d) : EvD (tVar i) σ H d := fun H1 e Q q => ⟨v, h, q _ H1 (Same.refl _) (hd.same e)⟩
theorem d_nil : EvDs tNil σ H [] := fun H1 _ Q q => q _ H1 (Same.refl _) .nil
theorem d_cons (h : EvD ta σ H d) (t : EvDs tr σ H ds) : EvDs (tCons ta tr) σ H (d :: ds) := fun H1 e1 Q q =>
  h H1 e1 _ fun v H2 e2 hv => t H2 (e1.trans e2) _ fun vs H3 e3 hvs => q _ H3 (e2.trans e3) (.cons (hv.same e3) hvs)
theorem d_tup (t : EvDs tr σ H ds) (hl : ds.length ≤ 1000) : EvD (tTup tr) σ H (.tuple ds) := fun H1 e1 Q q =>
  t H1 e1 _ fun vs H2 e2 hvs => ⟨Nat.le_of_lt (small1000 (by rw [hvs.len]; exact hl)), fun p hp => q _ _ (Same.new e2 hp) (.tup upd_same (hvs.same (same_new hp)))⟩
theorem d_lst (t : EvDs tr σ H ds) (hl : ds.length ≤ 1000) : EvD (tLst tr) σ H (.list ds) := fun H1 e1 Q q =>
  t H1 e1 _ fun vs H2 e2 hvs => ⟨Nat.le_of_lt (small1000 (by rw [hvs.len]; exact hl)), fun p hp => q _ _ (Same.new e2 hp) (.lst upd_same (hvs.same (same_new hp)))⟩
theorem d_cat (ha : EvD ta σ H (.list ds)) (hb : EvD tb σ H (.list es)) (hl : ds.length + es.length ≤ 1000) : EvD (tOp rCat ta tb) σ H (.list (ds ++ es)) := fun H1 e1 Q q =>
  ha H1 e1 _ fun v H2 e2 hv => hb H2 (e1.trans e2) _ fun w H3 e3 hw => by
    cases hv with
    | lst h1 t1 =>
      cases hw with
      | lst h2 t2 =>
        exact ⟨_, _, _, _, rfl, rfl, e3 _ _ h1, h2, Nat.le_of_lt (small1000 (by rw [t1.len, t2.len]; exact hl)), fun p hp => q _ _ (Same.new (e2.trans e3) hp) (.lst upd_same (((t1.same e3).app t2).same (same_new hp)))⟩
theorem EvD.mono (h : EvD te σ H d) (e : Same H H') : EvD te σ H' d := fun H1 e1 Q q => h H1 (e.trans e1) Q q
theorem EvD.go {Q : VK} (h : EvD te σ H d) (q : ∀ v H2, Same H H2 → Dt H2 v d → Q v H2) : te σ H Q := h H (Same.refl _) Q q
/-- a call of a def that gives data -/
theorem d_call {sp : Sp} (h : EvDs tr σ H ds) (hs : ∀ vs H1, Same H H1 → Dts H1 vs ds → ∀ Q : VK, (∀ v H2, Same H1 H2 → Dt H2 v d → Q v H2) → sp vs H1 Q E0) : EvD (tCall sp [] E0 tr) σ H d := fun H1 e1 Q q =>
  h H1 e1 _ fun vs H2 e2 hvs => by
    rw [List.append_nil]
    exact hs vs H2 (e1.trans e2) hvs Q fun v H3 e3 hv => q v H3 (e2.trans e3) hv
end
section
variable {σ : L2.St} {H : Hp} {D : Ends} {te : TE} {d : PyData} {u : TS} {i : Nat}
theorem s_asgD (h : EvD te σ H d) (k : ∀ v H1, Same H H1 → Dt H1 v d → D.nx (σ.set i (some v)) H1) : tAsg te (gName i) D σ H := h.go fun v H1 e hv => k v H1 e hv
theorem q_asgD (h : EvD te σ H d) (k : ∀ v H1, Same H H1 → Dt H1 v d → u D (σ.set i (some v)) H1) : tSeq (tAsg te (gName i)) u D σ H := h.go fun v H1 e hv => k v H1 e hv
theorem s_retD (h : EvD te σ H d) (k : ∀ v H1, Same H H1 → Dt H1 v d → D.rt v H1) : tRet te D σ H := h.go fun v H1 e hv => k v H1 e hv
end
theorem eq_nilD {K : PySem.W.Frag} {H : Hp} {v : V} {q : Addr} {ds : List PyData} {Q : VK} (h : Dt H v (.list ds)) (hs : SeqAt.shaped (.list ds) = true) (hq : H q = some (.lst [])) (k : Q (.bl ds.isEmpty) H) : rEqD K v (.ref q) H Q := by
  obtain ⟨a, xs, rfl, ha, ht⟩ := h.list
  refine eq_nil (.inl (.inl ha)) ht.dp hs hq ?_
  have hl := ht.len
  cases ds with
  | nil => rw [List.length_eq_zero_iff.mp hl]; exact k
  | cons d r =>
    cases xs with
    | nil => cases hl
    | cons x y => exact k
theorem ne_nilD {K : PySem.W.Frag} {H : Hp} {v : V} {q : Addr} {ds : List PyData} {Q : VK} (h : Dt H v (.list ds)) (hs : SeqAt.shaped (.list ds) = true) (hq : H q = some (.lst [])) (k : Q (.bl (!ds.isEmpty)) H) : rNeD K v (.ref q) H Q := by
  obtain ⟨a, xs, rfl, ha, ht⟩ := h.list
  refine ne_nil (.inl (.inl ha)) ht.dp hs hq ?_
  have hl := ht.len
  cases ds with
  | nil => rw [List.length_eq_zero_iff.mp hl]; exact k
  | cons d r =>
    cases xs with
    | nil => cases hl
    | cons x y => exact k
/-! ### texts in lists -/
theorem flat_strs (zs : List Str) : (zs.map V.str).all flatV = true := by
  rw [List.all_map]
  exact List.all_eq_true.mpr fun z _ => rfl
theorem inV_strs (z : Str) (zs : List Str) : inV (.str z) (zs.map V.str) = decide (z ∈ zs) := by
  unfold inV
  rw [List.any_map]
  induction zs with
  | nil => rfl
  | cons y r ih =>
    rw [List.any_cons, ih]
    by_cases h : z = y
    · subst h
      simp [eqV]
    · simp [eqV, h]
      intro e
      exact absurd e.symm h
/-! ### comprehensions over data, whose items stood before -/
section
variable {K : PySem.W.Frag} {g : TG} {tt : TT} {te : TE} {vs : List Nat} {σ : L2.St} {H : Hp} {Q : VK} {J : It} {xs : List V} {S : Hp → Prop} {α : Type}
theorem lcg_old (hJ : JSeq J xs S) (hS : S H) (as : List α) (dat : α → PyData) (hxs : Dts H xs (as.map dat)) (hz : as.length < 100000) (fb : α → Bool) (fv : α → PyData)
    (hs : ∀ x a, a ∈ as → Dt H x (dat a) → ∀ H', Same H H' → ∀ (R1 : V → Hp → Prop) (R0 : Hp → Prop), (fb a = true → ∀ v H'', Same H' H'' → Dt H v (fv a) → R1 v H'') → (fb a = false → ∀ H'', Same H' H'' → R0 H'') →
      g x (wipe σ vs) H' fun σ2 H2 => wipe σ2 vs = wipe σ vs ∧ tt σ2 H2 fun b H3 => if b = true then te σ2 H3 R1 else R0 H3)
    (hd : ∀ D H', H D = none → Same H H' → Dt H' (.ref D) (.list ((as.filter fb).map fv)) → Q (.ref D) H') : LcG J g tt te vs σ H Q := by
  have hlen : xs.length = as.length := by rw [hxs.len, List.length_map]
  refine lcg_by hJ (fun D i acc H' => Same H H' ∧ H' D = some (.lst acc) ∧ Dts H acc (((as.take i).filter fb).map fv)) (fun D hD => ⟨same_new hD, upd_same, .nil⟩)
    (fun D i acc H' _ _ p => hJ.same _ _ hS p.1) (fun D i x acc H' hD hx p => ?_) (fun D acc H' hD p => ?_)
  · obtain ⟨p1, p2, p3⟩ := p
    have hi : i < as.length := hlen ▸ (List.getElem?_eq_some_iff.mp hx).1
    have ha : as[i]? = some as[i] := List.getElem?_eq_getElem hi
    obtain ⟨x', hx', hdx⟩ := hxs.get (i := i) (d := dat as[i]) (by rw [List.getElem?_map, ha]; rfl)
    rw [hx] at hx'
    cases hx'
    have tk : (((as.take (i + 1)).filter fb).map fv) = ((as.take i).filter fb).map fv ++ (if fb as[i] = true then [fv as[i]] else []) := by
      rw [List.take_add_one, ha, List.filter_append, List.map_append]
      cases h : fb as[i] with
      | true => simp [h]
      | false => simp [h]
    refine hs x as[i] (List.getElem_mem hi) hdx H' p1 _ _ (fun hb v H'' e hv => ?_) (fun hb H'' e => ?_)
    · refine ⟨acc, e _ _ p2, ?_, acc ++ [v], Same.mut (p1.trans e) hD, upd_same, ?_⟩
      · refine Nat.lt_of_lt_of_le (Nat.lt_of_le_of_lt (?_ : _ ≤ as.length) hz) (by decide)
        rw [p3.len, List.length_map]
        exact Nat.le_trans (List.length_filter_le _ _) (by rw [List.length_take]; exact Nat.min_le_right _ _)
      · rw [tk, if_pos hb]
        exact p3.app (.cons hv .nil)
    · refine ⟨acc, p1.trans e, e _ _ p2, ?_⟩
      rw [tk, if_neg (by rw [hb]; decide), List.append_nil]
      exact p3
  · obtain ⟨p1, p2, p3⟩ := p
    rw [hlen, List.take_length] at p3
    exact hd D H' hD p1 (.lst p2 (p3.same p1))
end
/-- a promise: from data to data -/
def spD (F : List PyData → Option PyData) : Sp := fun vs H Q _ => ∃ ds d, Dts H vs ds ∧ F ds = some d ∧ ∀ v H', Same H H' → Dt H' v d → Q v H'
theorem d_callF {σ : L2.St} {H : Hp} {tr : TA} {ds : List PyData} {d : PyData} {F : List PyData → Option PyData} (h : EvDs tr σ H ds) (hF : F ds = some d) : EvD (tCall (spD F) [] E0 tr) σ H d :=
  d_call h fun vs H1 e1 hvs Q q => ⟨ds, d, hvs, hF, q⟩
end Fp

/-! the rules with the written part told by name -/
namespace Fp
open PySem PySem.Spec PyProof.Rows L2
section
variable {X : Cx} (K : PySem.W.Frag)
theorem op_inK (hK : X.K = K := by rfl) : OpR X (compareOp .In) (rIn K false) := hK ▸ op_in_seq
theorem op_notInK (hK : X.K = K := by rfl) : OpR X (compareOp .NotIn) (rIn K true) := hK ▸ op_notIn_seq
theorem op_eqDK (hu : X.A.units + 64 < cLine) (hK : X.K = K := by rfl) : OpR X (compareOp .Eq) (rEqD K) := hK ▸ op_eqD hu
theorem op_neDK (hu : X.A.units + 64 < cLine) (hK : X.K = K := by rfl) : OpR X (compareOp .NotEq) (rNeD K) := hK ▸ op_neD hu
theorem call_lenK (hK : X.K = K := by rfl) : CallR X (.builtin "len") (rLenL K) := hK ▸ call_lenL
theorem call_listK (hK : X.K = K := by rfl) : CallR X (.type "list") (rListL K) := hK ▸ call_listL
theorem call_listTK (hK : X.K = K := by rfl) : CallR X (.type "list") (rListT K) := hK ▸ call_listT
def rTupL (K : PySem.W.Frag) : List V → Hp → VK → Prop := fun xs H Q => ∃ p ys, xs = [.ref p] ∧ SqL K H p ys ∧ ∀ l, H l = none → Q (.ref l) (upd H l (.tup ys))
theorem call_tupleK (hK : X.K = K := by rfl) : CallR X (.type "tuple") (rTupL K) := by
  subst hK
  intro pins s σ H xs us Q I r h
  obtain ⟨p, ys, e, h1, q⟩ := h
  exact call_tuple_of pins s σ H xs us Q I r ⟨p, ys, e, .inl ⟨h1, q⟩⟩
theorem call_allK (hc : X.calm = true) (hK : X.K = K := by rfl) : CallR X (.builtin "all") (rAll K) := hK ▸ cr_all hc
theorem ix_listK (hK : X.K = K := by rfl) : IxR X (rIxL K) := hK ▸ ix_list
theorem ix_tupK (hK : X.K = K := by rfl) : IxR X (rIxT K) := hK ▸ ix_tup
theorem ix_kdK (w : World) (hK : X.K = K := by rfl) (hw : X.w = w := by rfl) : IxR X (rIxD K w) := by
  subst hK hw
  exact ix_kdict
theorem sl_listK (hK : X.K = K := by rfl) : SlR X (rSlL K) := hK ▸ sl_list
variable {tg e o : Expr} {td : TE} {t : TA}
theorem pi_listK (he : PE X e td) (hK : X.K = K := by rfl) : PI X tg e (iList K td) := hK ▸ pi_list he
theorem pi_tupK (he : PE X e td) (hK : X.K = K := by rfl) : PI X tg e (iTup K td) := hK ▸ pi_tup he
theorem pi_kkK (he : PE X e td) (hK : X.K = K := by rfl) : PI X tg e (iKK K td) := hK ▸ pi_kk he
theorem pe_fldK {f : Str} {pos : Pos} (ho : PE X o td) (hb : attributeBase o f X.env (eval o X.env) = eval o X.env) (hK : X.K = K := by rfl) : PE X (.Attribute o f pos) (tFld K td f) := hK ▸ pe_fld ho hb
theorem ps_fldK {f : Str} {pos pos' : Pos} {v : Expr} {tv : TE} (ho : PE X o td) (hv : PE X v tv) (hs : swapsWith v (some (.Attribute o f pos')) pos.line X.env = pure false) (hK : X.K = K := by rfl) : PS X (.Assign [.Attribute o f pos'] v pos) (sFld K td tv f) := hK ▸ ps_fld ho hv hs
theorem pg_tupK {es : List Expr} {k n : Nat} {pos : Pos} {u : List V → L2.St → Hp → (L2.St → Hp → Prop) → Prop} (h : PG X (.Tuple es k pos) (gTup X.K n u)) (hK : X.K = K := by rfl) : PG X (.Tuple es k pos) (gTup K n u) := hK ▸ h
section
variable {T : String} {name : Str} {id : String} {to : TE} {r : V → List V → Hp → VK → Prop} {apos cpos : Pos} {es : List Expr}
theorem pe_bmK (hK : X.K = K := by rfl) (h : PE X (.Call (.Attribute o name apos) es [] cpos) (tBM X.K T r to t)) : PE X (.Call (.Attribute o name apos) es [] cpos) (tBM K T r to t) := hK ▸ h
theorem pe_bm0K (hK : X.K = K := by rfl) (h : PE X (.Call (.Attribute o name apos) es [] cpos) (tBM0 X.K T r to)) : PE X (.Call (.Attribute o name apos) es [] cpos) (tBM0 K T r to) := hK ▸ h
end
end
end Fp

/-! x != y where the class has an own __eq__ and no own __ne__ -/
namespace Fp
open PySem PySem.Spec PyProof.Rows L2
section
variable {X : Cx} {k : Nat} {C : Addr} {ps : List Str} {sp : Sp}
def rOwnNe (C : Addr) (sp : Sp) : R2 := fun x y H Q => ∃ a dx fs b dy gs, x = .ref a ∧ y = .ref b ∧ H a = some (.ins C dx fs) ∧ H b = some (.ins C dy gs) ∧ sp [.ref a, .ref b] H (fun v H' => ∃ r, v = .bl r ∧ Q (.bl (!r)) H') E0
theorem op_ownNe (hne : PySem.W.findIn X.K (.ref C) "__ne__" = some (some (.builtin "object.__ne__"))) (hm : PySem.W.mroIn X.K C (.type "object") = some true)
    (M : Mn X.prog X.w X.K X.mg X.base k C "__eq__" ps sp) (hr : Room (k + 1) X.A) : OpR X (compareOp .NotEq) (rOwnNe C sp) := by
  intro pins s σ H x y v u Q I rx ry h
  obtain ⟨a, dx, fs, b, dy, gs, rfl, rfl, ha, hb, q⟩ := h
  obtain rfl : v = Value.ref a := rx
  obtain rfl : u = Value.ref b := ry
  obtain ⟨g, fd, h1, h2, h3⟩ := M
  obtain ⟨od, J⟩ := inst_of I ha
  obtain ⟨od', J'⟩ := inst_of I hb
  have XK := I.kIn
  have SN := PySem.F.cmp_object.ne
  -- the def's own run, one deeper
  have run : codeAny (model X.prog X.w) X.A.in1 (.call (.ref g) ⟨[.ref a, .ref b], []⟩) (CR (fun _ _ _ _ _ _ => False) X.stack X.prog X.w H s (fun v H' => ∃ r, v = .bl r ∧ Q (.bl (!r)) H') E0) s := by
    have r2 : Vals [V.ref a, V.ref b] [Value.ref a, Value.ref b] := .cons rfl (.cons rfl .nil)
    have hl := h3.len _ _ _ _ q
    exact h3.run X.A.in1 X.stack s H ⟨[.ref a, .ref b], []⟩ [.ref a, .ref b] [.ref a, .ref b] _ E0 hr.in1 I.env0.in1 (h2 s [.ref a, .ref b] I.kIn hl) r2 q
  have body : wpAny (model X.prog X.w) X.A (call (.builtin "object.__ne__") [.ref a, .ref b]) (fun r s' => ∃ t, r = Value.bool t ∧ EP X pins σ Q (.bool t) s') X.xe s := by
    have sub : PySem.W.Looks (model X.prog X.w) s.heap (isInstance (.ref a) (.type "object")) true := J.type.andThen (PySem.W.looks_mroIn XK hm)
    refine wpAny_call (codeAny_call_builtin SN.plain PySem.F.cmpEntry_ne (@PySem.W.check_slot (model X.prog X.w) _ _ s "object.__ne__" "object" "__ne__" (.ref a) [.ref b] [] _ PySem.F.cmpKind_ne PySem.F.cmpSplit_ne sub (PySem.F.cmpArgs_ne _ _) ?_))
    unfold Builtin.«object.__ne__»
    refine wpAny_bind (wpAny_pure ?_)
    have hu : X.A.in1.units < cLine := hr.in1.units0
    refine wpAny_bind (wpAny_cRoomFor hu ?_)
    refine wpAny_bind (PySem.W.ifBound_K (od := some od) XK J h1.at_ h1.fn (wpAny_call (codeAny_mono run fun r s' hq => ?_)))
    cases r with
    | error e => exact hq.elim
    | ok fl =>
      cases fl with
      | ret u =>
        obtain ⟨v', H', I', rz, t, rfl, qz⟩ := I.after hq
        cases rz
        refine wpAny_bind (wpAny_truthy_bool ?_)
        exact wpAny_pure ⟨!t, rfl, .bl (!t), H', I', rfl, qz⟩
      | next => exact False.elim hq
      | brk => exact False.elim hq
      | cont => exact False.elim hq
  have one : wpAny (model X.prog X.w) X.A (tryCompare (.ref a) "__ne__" (.ref b)) (fun r s' => ∃ v, r = some v ∧ EP X pins σ Q v s') X.xe s := by
    unfold tryCompare
    refine wpAny_bind ?_
    simp only [callSpecialIfBound?, bindSpecialIfBound?]
    refine wpAny_holding (wpAny_bind (wpAny_bind (wpAny_bind (J.type.here ((PySem.W.looks_findIn XK hne).here ?_)))))
    have fin : wpAny (model X.prog X.w) X.A (call (.builtin "object.__ne__") ([.ref a] ++ [.ref b]) >>= fun v => pure (some v)) (fun r s' => wpAny (model X.prog X.w) X.A (match r with | some .notImplemented | none => pure none | some v => pure (some v)) (fun r s' => ∃ v, r = some v ∧ EP X pins σ Q v s') X.xe s') X.xe s :=
      wpAny_bind (wpAny_mono body (fun r s' hr' => by obtain ⟨t, rfl, e⟩ := hr'; exact wpAny_pure (wpAny_pure ⟨_, rfl, e⟩)) fun _ _ z => z)
    refine wpAny_bind (wpAny_askSetting (wpAny_ite ?_))
    split
    · rw [SN.bind]
      exact wpAny_bind (wpAny_pure (wpAny_pure fin))
    · rw [SN.bind]
      exact wpAny_tryCatch (wpAny_bind (wpAny_pure (wpAny_pure fin)))
  show wpAny _ _ (richCompare .NotEq _ _) _ _ _
  unfold richCompare
  simp only [PySem.oneThing_ref]
  have e0 : ((Value.ref C != Value.ref C) = true) = False := by simp
  refine wpAny_holding (wpAny_bind (wpAny_cRoomFor hr.units0 (wpAny_bind (J.type.here (wpAny_bind (J'.type.here ?_))))))
  simp only [e0, if_false]
  refine wpAny_bind (wpAny_pure ?_)
  simp only [Bool.false_eq_true, if_false]
  refine wpAny_bind (wpAny_mono one (fun r s' z => ?_) fun _ _ e => e)
  obtain ⟨v, rfl, hq⟩ := z
  exact wpAny_pure hq
end
end Fp

namespace Fp
open PySem PySem.Spec PyProof.Rows L2
local macro_rules | `(tactic| walk_at "rd") => `(tactic| simp only [cxK, cxKn, tRet, tRetN, rIntI, rIntB, rLenL, rListL, rListT, rAbs, tDisp, tPairs, tC, tCB, tCons, tNil, tSl, tVar, tNoPart, tPart, rSlL, tOp, tAsg, gName, tIfS, tDrop, tTest, tAnd, tOr, Evl.tCut, tNot, tB, rI0, rI, rIxL, rIxT, rIxD, tDGet, sDPut, tLst, tTup, tBM, tBM0, tPar, rAppend, rPopAt, rPop, rExtend, rTupL, tCall, tNext, rAll, rOwnIn, rOwn2, rCat, lc_iL, lc_iT, lc_iK, lc_iR, fr_iL, fr_iT, fr_iR, tYes, rIn, rEq, rNe, gTup, gCons, gNil, wipe, tMeth, tFld, sFld, tMake, tProp, tIf, tAndV, tOrV, tNotV, if_true, if_false, Bool.false_eq_true, List.map_cons, List.map_nil, List.nil_append, List.append_nil, List.cons_append, List.getElem?_cons_zero, List.getElem?_cons_succ, Option.some.injEq, exists_and_left, exists_eq_left', exists_eq_left, List.cons.injEq, and_true, true_and, V.ref.injEq, V.int.injEq, V.str.injEq, V.bl.injEq, List.set_cons_zero, List.set_cons_succ])
theorem seqi {t u : TS} {D : Ends} {σ : L2.St} {H : Hp} (h : ∀ k : L2.St → Hp → Prop, k = u D → t { D with nx := k } σ H) : tSeq t u D σ H := h _ rfl
theorem tSeq_eq {t u : TS} {D : Ends} {σ : L2.St} {H : Hp} : tSeq t u D σ H = t { D with nx := u D } σ H := rfl
section
variable {K : PySem.W.Frag} {P : Program} {w : World} {base : Heap} {mg : Str → Option Value}
theorem cxK {CX : CXT} {N : List Str} {qual : Str} {sc : Scope} {f : Addr} {cdv : Value} {A : Around} {outer : List Env} {s : Shared} {H : Hp} {E : XK} : (cxOf CX P w K mg base N qual sc f cdv A outer s H E).K = K := rfl
theorem cxKn {CX : CXT} {N : List Str} {qual : Str} {sc : Scope} {f : Addr} {cdv : Value} {A : Around} {outer : List Env} {s : Shared} {H : Hp} {E : XK} : (cxOf CX P w K mg base N qual sc f cdv A outer s H E).nox.K = K := rfl
end
section
variable {K : PySem.W.Frag} {P : Program} {w : World} {base : Heap} {mg : Str → Option Value}
end

/-! ### the mathematics: rules by number -/
def rn (i : Nat) : Str := (["grouping", "order", "middle", "first", "last", "ends", "keep", "take", "vanish"] : List Str).getD i ""
def kn (i : Nat) : Str := (["trees", "pairs", "words", "bags", "parity", "middles", "heads", "tails", "sets", "outer", "lefts", "rights", "one"] : List Str).getD i ""
def KR (i : Nat) : List Nat := [[], [1], [0], [0, 1], [0, 1, 8], [0, 2], [0, 2, 3], [0, 2, 4], [0, 1, 2, 3, 4], [0, 2, 5], [0, 2, 3, 5, 6], [0, 2, 4, 5, 7], [0, 1, 2, 3, 4, 5, 6, 7, 8]].getD i []
abbrev R9 : List Nat := [0, 1, 2, 3, 4, 5, 6, 7, 8]
abbrev K13 : List Nat := [0, 1, 2, 3, 4, 5, 6, 7, 8, 9, 10, 11, 12]
def ruD (l : List Nat) : PyData := .list (l.map fun i => .str (rn i))
def kiD (i : Nat) : PyData := .tuple [.str (kn i), ruD (KR i)]
def thD : PyData := .list (K13.map kiD)
section
variable {K : PySem.W.Frag} {P : Program} {w : World} {base : Heap} {mg : Str → Option Value}
def spNine : Sp := fun vs H Q _ => vs = [] ∧ ∀ v H', Same H H' → Dt H' v (ruD R9) → Q v H'
def spThir : Sp := fun vs H Q _ => vs = [] ∧ ∀ v H', Same H H' → Dt H' v thD → Q v H'
end

/-! ### more mathematics -/
def hasB (k : Nat) (ns : List Nat) : Bool := ns.all fun n => decide (n ∈ KR k)
def clos (ns : List Nat) : List Nat := R9.filter fun r => ((K13.filter fun k => hasB k ns).filter fun k => !decide (r ∈ KR k)).isEmpty
theorem rn_inj : ∀ i ∈ R9, ∀ j ∈ R9, rn i = rn j → i = j := by decide
def rS (l : List Nat) : List Str := l.map rn
theorem mem_rS {i : Nat} {l : List Nat} (hi : i ∈ R9) (hl : ∀ j ∈ l, j ∈ R9) : (rn i ∈ rS l) = (i ∈ l) := propext ⟨fun h => by
  obtain ⟨j, hj, e⟩ := List.mem_map.mp h
  rw [← rn_inj j (hl j hj) i hi e]
  exact hj, fun h => List.mem_map_of_mem h⟩
theorem KR_in : ∀ k ∈ K13, ∀ j ∈ KR k, j ∈ R9 := by decide
theorem ruD_eq (l : List Nat) : ruD l = .list ((rS l).map PyData.str) := by
  unfold ruD rS
  rw [List.map_map]
  rfl
theorem shp_rn : ∀ i ∈ R9, (PyData.str (rn i)).canLay0 = true ∧ (PyData.str (rn i)).depth ≤ 0 := by decide +kernel
theorem shp_ru {l : List Nat} (h : ∀ j ∈ l, j ∈ R9) : Shp 1 (ruD l) := shp_lst fun d hd => by
  obtain ⟨i, hi, rfl⟩ := List.mem_map.mp hd
  exact shp_rn i (h i hi)
theorem filter_empty {α : Type} (p : α → Bool) : ∀ l : List α, (l.filter fun x => !p x).isEmpty = l.all p
  | [] => rfl
  | x :: r => by
    rw [List.filter_cons, List.all_cons, ← filter_empty p r]
    cases p x with
    | true => rfl
    | false => rfl
theorem map_empty {α β : Type} (f : α → β) (l : List α) : (l.map f).isEmpty = l.isEmpty := by cases l <;> rfl
theorem dts_rS {H : Hp} : ∀ l : List Nat, Dts H ((rS l).map V.str) (l.map fun n => PyData.str (rn n))
  | [] => .nil
  | n :: r => .cons (.str _) (dts_rS r)
theorem Dt.rules {H : Hp} {v : V} {l : List Nat} (h : Dt H v (ruD l)) : ∃ a, v = .ref a ∧ H a = some (.lst ((rS l).map V.str)) := by
  rw [ruD_eq] at h
  cases h with
  | lst h1 t => exact ⟨_, rfl, by rw [h1, Dts.strs t]⟩
section
variable {K : PySem.W.Frag} {P : Program} {w : World} {base : Heap} {mg : Str → Option Value}
/-- names: rules by number -/
def spClos : Sp := fun vs H Q _ => ∃ v ns, vs = [v] ∧ Dt H v (ruD ns) ∧ (∀ n ∈ ns, n ∈ R9) ∧ ns.length ≤ 9 ∧ ∀ v H', Same H H' → Dt H' v (ruD (clos ns)) → Q v H'
end

theorem perm_erase {α : Type} : ∀ (l : List α) (i : Nat) (x : α), l[i]? = some x → (x :: l.eraseIdx i).Perm l
  | [], _, _, h => by simp at h
  | y :: r, 0, x, h => by
    cases h
    exact List.Perm.refl _
  | y :: r, i + 1, x, h => by
    have ih := perm_erase r i x h
    exact (List.Perm.swap y x _).trans (ih.cons y)
section
variable {K : PySem.W.Frag} {P : Program} {w : World} {base : Heap} {mg : Str → Option Value}
def spShuf : Sp := fun vs H Q _ => ∃ p c v t ds n, vs = [.ref p, v] ∧ PenOk H p c t ∧ Dt H v (.list ds) ∧ (∀ d ∈ ds, Shp n d) ∧ n ≤ 60 ∧ ds.length ≤ 900 ∧ t ≤ 900000000 ∧
  ∀ a H' es, es.Perm ds → PenOk H' p c (t + ds.length) → But p H H' → Dt H' (.ref a) (.list es) → Q (.ref a) H'
end
/-! ### the mathematics of closing -/
def sub (b : Nat) : List Nat := R9.filter fun i => b.testBit i
def weak (ns : List Nat) : Nat := (K13.filter fun k => hasB k ns).headD 0
def allOk (b : Nat) : Bool :=
  decide (KR (weak (sub b)) = clos (sub b)) && decide ((K13.filter fun k => decide (KR k = clos (sub b))) = [weak (sub b)])
theorem all_ok : (List.range 512).all allOk = true := by decide +kernel
theorem sub_ok {b : Nat} (h : b < 512) : KR (weak (sub b)) = clos (sub b) ∧ (K13.filter fun k => decide (KR k = clos (sub b))) = [weak (sub b)] := by
  have h1 := List.all_eq_true.mp all_ok b (List.mem_range.mpr h)
  unfold allOk at h1
  rw [Bool.and_eq_true, decide_eq_true_eq, decide_eq_true_eq] at h1
  exact h1
theorem sub_in {b i : Nat} (h : i ∈ sub b) : i ∈ R9 := (List.mem_filter.mp h).1
theorem sub_len (b : Nat) : (sub b).length ≤ 9 := List.length_filter_le _ _
theorem clos_in {ns : List Nat} {i : Nat} (h : i ∈ clos ns) : i ∈ R9 := (List.mem_filter.mp h).1
theorem has_one {ns : List Nat} (h : ∀ n ∈ ns, n ∈ R9) : hasB 12 ns = true := List.all_eq_true.mpr fun n hn => decide_eq_true (h n hn)
theorem weak_head {ns : List Nat} (h : ∀ n ∈ ns, n ∈ R9) : (K13.filter fun k => hasB k ns)[0]? = some (weak ns) ∧ weak ns ∈ K13 := by
  have hm : 12 ∈ K13.filter fun k => hasB k ns := List.mem_filter.mpr ⟨by decide, has_one h⟩
  unfold weak
  cases e : (K13.filter fun k => hasB k ns) with
  | nil => rw [e] at hm; cases hm
  | cons k r => exact ⟨rfl, (List.mem_filter.mp (show k ∈ K13.filter fun k => hasB k ns by rw [e]; exact List.mem_cons_self)).1⟩
theorem kinds_ok : K13.all (fun k => decide (weak (KR k) = k)) = true := by decide +kernel
theorem weak_KR {k : Nat} (h : k ∈ K13) : weak (KR k) = k := of_decide_eq_true (List.all_eq_true.mp kinds_ok k h)
theorem KR_sorted : K13.all (fun k => decide (R9.filter (fun i => decide (i ∈ KR k)) = KR k)) = true := by decide +kernel
theorem KR_filter {k : Nat} (h : k ∈ K13) : R9.filter (fun i => decide (i ∈ KR k)) = KR k := of_decide_eq_true (List.all_eq_true.mp KR_sorted k h)
theorem sub_filter (b : Nat) : R9.filter (fun i => decide (i ∈ sub b)) = sub b := by
  unfold sub
  refine List.filter_congr fun i hi => ?_
  cases h : b.testBit i with
  | true => exact decide_eq_true (List.mem_filter.mpr ⟨hi, h⟩)
  | false => exact decide_eq_false fun z => absurd (List.mem_filter.mp z).2 (by rw [h]; decide)
theorem kn_rn : K13.all (fun k => R9.all fun i => !decide (kn k = rn i)) = true := by decide +kernel
theorem eqv_strs : ∀ a b : List Str, PyData.eqvAll (a.map PyData.str) (b.map PyData.str) = decide (a = b)
  | [], [] => rfl
  | [], _ :: _ => rfl
  | _ :: _, [] => rfl
  | x :: a, y :: b => by
    show ((x == y) && PyData.eqvAll (a.map PyData.str) (b.map PyData.str)) = _
    rw [eqv_strs a b]
    by_cases h : x = y
    · subst h
      simp
    · simp [h]
theorem rS_inj : ∀ {a b : List Nat}, (∀ n ∈ a, n ∈ R9) → (∀ n ∈ b, n ∈ R9) → (rS a = rS b) = (a = b)
  | [], [], _, _ => by simp
  | [], _ :: _, _, _ => by simp [rS]
  | _ :: _, [], _, _ => by simp [rS]
  | x :: a, y :: b, ha, hb => by
    have ih := rS_inj (a := a) (b := b) (fun n hn => ha n (List.mem_cons_of_mem _ hn)) (fun n hn => hb n (List.mem_cons_of_mem _ hn))
    have hx := ha x List.mem_cons_self
    have hy := hb y List.mem_cons_self
    have e1 : (rn x = rn y) = (x = y) := propext ⟨fun e => rn_inj x hx y hy e, fun e => by rw [e]⟩
    show (rn x :: rS a = rn y :: rS b) = _
    simp only [List.cons.injEq]
    rw [e1, ih]
theorem eqv_ru {a b : List Nat} (ha : ∀ n ∈ a, n ∈ R9) (hb : ∀ n ∈ b, n ∈ R9) : PyData.eqv (ruD a) (ruD b) = decide (a = b) := by
  rw [ruD_eq, ruD_eq]
  show PyData.eqvAll _ _ = _
  rw [eqv_strs, decide_eq_decide.mpr (iff_of_eq (rS_inj ha hb))]

/-! ### what the top has written of rules -/
def kS : List Str := K13.map kn
structure TxR (K : PySem.W.Frag) (w : World) (mg : Str → Option Value) (aR aD C : Addr) (T : Nat → Addr) : Prop where
  mR : mg "_RULES" = some (.ref aR)
  mD : mg "_RULES_OF" = some (.ref aD)
  mC : mg "Rules" = some (.ref C)
  sR : ∀ H, SqT K H aR ((rS R9).map V.str)
  kk : KKeys K aD kS
  dD : ∃ es n, KDict K w aD es n
  dI : ∀ k ∈ K13, KDct K w aD (kn k) (.ref (T k))
  sT : ∀ k ∈ K13, ∀ H, SqT K H (T k) ((rS (KR k)).map V.str)
  cl : Cls K C
  nN : NoAttr K C "_names"
  nK : NoAttr K C "_kind"
  m_list : mg "list" = none
  m_all : mg "all" = none
  m_tuple : mg "tuple" = none
  m_isi : mg "isinstance" = none
section
variable {K : PySem.W.Frag} {P : Program} {w : World} {base : Heap} {mg : Str → Option Value} {aR aD C : Addr} {T : Nat → Addr}
def spRulesOf : Sp := fun vs H Q _ => ∃ k ∈ K13, vs = [.str (kn k)] ∧ ∀ v H', Same H H' → Dt H' v (ruD (KR k)) → Q v H'
def spHas (K : PySem.W.Frag) : Sp := fun vs H Q _ => ∃ a b k ns, vs = [.ref a, .ref b] ∧ k ∈ K13 ∧ (∀ n ∈ ns, n ∈ R9) ∧ ns.length ≤ 9 ∧ SqT K H a ((rS (KR k)).map V.str) ∧ SqT K H b ((rS ns).map V.str) ∧
  ∀ H', Same H H' → Q (.bl (hasB k ns)) H'
def spWeak (K : PySem.W.Frag) : Sp := fun vs H Q _ => ∃ b ns, vs = [.ref b] ∧ (∀ n ∈ ns, n ∈ R9) ∧ ns.length ≤ 9 ∧ SqT K H b ((rS ns).map V.str) ∧ ∀ H', Same H H' → Q (.str (kn (weak ns))) H'
theorem dts_bools {H : Hp} : ∀ {bs : List Bool} {vs : List V}, Dts H vs (bs.map PyData.bool) → vs = bs.map V.bl
  | [], _, .nil => rfl
  | z :: r, _, .cons (.bl _) t => by rw [dts_bools t]; rfl
end

def rFl (t : Addr) (k : Str) : List (Str × V) := putF "_kind" (.str k) (putF "_names" (.ref t) [])
theorem s_nk : ¬ (("_names" : Str) = "_kind") := by decide +kernel
theorem rFl_names (t : Addr) (k : Str) : (rFl t k).lookup ("_names" : Str) = some (.ref t) := by
  unfold rFl
  rw [lookup_putF, if_neg s_nk, lookup_putF, if_pos rfl]
theorem rFl_kind (t : Addr) (k : Str) : (rFl t k).lookup ("_kind" : Str) = some (.str k) := by
  unfold rFl
  rw [lookup_putF, if_pos rfl]
theorem rFl_no (t : Addr) (k m : Str) (h1 : ¬ m = "_kind") (h2 : ¬ m = "_names") : (rFl t k).lookup m = none := by
  unfold rFl
  rw [lookup_putF, if_neg h1, lookup_putF, if_neg h2]
  rfl
/-- a set of rules stands at p -/
def RuAt (H : Hp) (C p : Addr) (s : List Nat) : Prop := ∃ dx t, H p = some (.ins C dx (rFl t (kn (weak s)))) ∧ H t = some (.tup ((rS s).map V.str))
theorem RuAt.same {H H' : Hp} {C p : Addr} {s : List Nat} (h : RuAt H C p s) (e : Same H H') : RuAt H' C p s := by
  obtain ⟨dx, t, h1, h2⟩ := h
  exact ⟨dx, t, e _ _ h1, e _ _ h2⟩
section
variable {K : PySem.W.Frag} {P : Program} {w : World} {base : Heap} {mg : Str → Option Value} {aR aD C : Addr} {T : Nat → Addr}
def spInit (C : Addr) : Sp := fun vs H Q _ => ∃ p dx v ns, vs = [.ref p, v] ∧ H p = some (.ins C dx []) ∧ Dt H v (ruD ns) ∧ (∀ n ∈ ns, n ∈ R9) ∧ ns.length ≤ 9 ∧
  ∀ H', (∀ b o, H b = some o → b ≠ p → H' b = some o) → RuAt H' C p (R9.filter fun i => decide (i ∈ ns)) → Q .non H'
end

theorem Same.but {p : Addr} {H H' : Hp} (e : Same H H') : But p H H' := But.of e
section
variable {K : PySem.W.Frag} {P : Program} {w : World} {base : Heap} {mg : Str → Option Value} {aR aD C : Addr} {T : Nat → Addr}
def spListed (C : Addr) : Sp := fun vs H Q _ => ∃ p s, vs = [.ref p] ∧ RuAt H C p s ∧ ∀ v H', Same H H' → Dt H' v (ruD s) → Q v H'
def spKind (C : Addr) : Sp := fun vs H Q _ => ∃ p s, vs = [.ref p] ∧ RuAt H C p s ∧ ∀ H', Same H H' → Q (.str (kn (weak s))) H'
def spClosed (C : Addr) : Sp := fun vs H Q _ => ∃ p s, vs = [.ref p] ∧ RuAt H C p s ∧ weak s ∈ K13 ∧ ∀ p' H', Same H H' → RuAt H' C p' (KR (weak s)) → Q (.ref p') H'
def spCont (C : Addr) : Sp := fun vs H Q _ => ∃ p s z, vs = [.ref p, .str z] ∧ RuAt H C p s ∧ weak s ∈ K13 ∧ ∀ H', Same H H' → Q (.bl (decide (z ∈ rS (KR (weak s))))) H'
def spEq (C : Addr) : Sp := fun vs H Q _ => ∃ p s p' s', vs = [.ref p, .ref p'] ∧ RuAt H C p s ∧ RuAt H C p' s' ∧ (∀ n ∈ s, n ∈ R9) ∧ (∀ n ∈ s', n ∈ R9) ∧ ∀ H', Same H H' → Q (.bl (decide (s = s'))) H'
/-- the kind whose rules are closed under names -/
def spKW : Sp := fun vs H Q _ => ∃ v b, vs = [v] ∧ b < 512 ∧ Dt H v (ruD (sub b)) ∧ ∀ H', Same H H' → Q (.str (kn (weak (sub b)))) H'
end

/-! ### which rules are drawn -/
theorem mk_rules {C : Addr} {H : Hp} {v : V} {l : List Nat} {Q : VK} (hv : Dt H v (ruD l)) (hl : ∀ n ∈ l, n ∈ R9) (hn : l.length ≤ 9) (q : ∀ p H', Same H H' → RuAt H' C p (R9.filter fun i => decide (i ∈ l)) → Q (.ref p) H') :
    ∀ x dx, H x = none → H dx = none → dx ≠ x → spInit C [.ref x, v] (upd (upd H dx (.own x)) x (.ins C dx [])) (fun v H2 => v = .non ∧ Q (.ref x) H2) E0 := by
  intro x dx nx ndx ne
  have e2 : Same H (upd (upd H dx (.own x)) x (.ins C dx [])) := fun b o hb => by
    rw [upd_ne (ne_of_none hb nx), upd_ne (ne_of_none hb ndx)]
    exact hb
  exact ⟨x, dx, v, l, rfl, upd_same, hv.same e2, hl, hn, fun H2 k2 r2 => ⟨rfl, q _ _ (fun b o hb => k2 b o (e2 _ _ hb) (ne_of_none hb nx)) r2⟩⟩
def pick : List Bool → List Nat → List Nat
  | b :: bs, x :: xs => if b = true then x :: pick bs xs else pick bs xs
  | _, _ => []
theorem pick_snoc : ∀ (bs : List Bool) (xs : List Nat) (b : Bool) (x : Nat), xs[bs.length]? = some x → pick (bs ++ [b]) xs = pick bs xs ++ (if b = true then [x] else [])
  | [], [], _, _, h => by simp at h
  | [], y :: r, b, x, h => by
    cases h
    cases b <;> rfl
  | c :: bs, [], _, _, h => by simp at h
  | c :: bs, y :: r, b, x, h => by
    have ih := pick_snoc bs r b x h
    cases c with
    | true =>
      show y :: pick (bs ++ [b]) r = y :: pick bs r ++ _
      rw [ih]
      rfl
    | false => exact ih
def bitsOf : List Bool → Nat
  | [] => 0
  | b :: r => (if b = true then 1 else 0) + 2 * bitsOf r
theorem pick9 : ∀ b0 b1 b2 b3 b4 b5 b6 b7 b8 : Bool, pick [b0, b1, b2, b3, b4, b5, b6, b7, b8] R9 = sub (bitsOf [b0, b1, b2, b3, b4, b5, b6, b7, b8]) ∧ bitsOf [b0, b1, b2, b3, b4, b5, b6, b7, b8] < 512 := by decide +kernel
theorem pick_sub {bs : List Bool} (h : bs.length = 9) : ∃ b, b < 512 ∧ pick bs R9 = sub b := by
  match bs, h with
  | [b0, b1, b2, b3, b4, b5, b6, b7, b8], _ => exact ⟨_, (pick9 b0 b1 b2 b3 b4 b5 b6 b7 b8).2, (pick9 b0 b1 b2 b3 b4 b5 b6 b7 b8).1⟩
theorem pick_len : ∀ (bs : List Bool) (xs : List Nat), (pick bs xs).length ≤ bs.length
  | [], _ => Nat.le_of_eq (by cases ‹List Nat› <;> rfl)
  | _ :: _, [] => Nat.zero_le _
  | b :: bs, x :: xs => by
    have ih := pick_len bs xs
    cases b with
    | true => exact Nat.succ_le_succ ih
    | false => exact Nat.le_succ_of_le ih
theorem perm_map_inv {α β : Type} {f : α → β} {es m : List β} (h : es.Perm m) : ∀ l : List α, m = l.map f → ∃ l' : List α, l'.Perm l ∧ es = l'.map f := by
  induction h with
  | nil => exact fun l e => ⟨l, List.Perm.refl _, e⟩
  | cons x _ ih =>
    intro l e
    cases l with
    | nil => cases e
    | cons a r =>
      injection e with e1 e2
      obtain ⟨r', p, e3⟩ := ih r e2
      exact ⟨a :: r', p.cons a, by rw [e1, e3]; rfl⟩
  | swap x y l0 =>
    intro l e
    match l, e with
    | a :: b :: r, e =>
      injection e with e1 e2
      injection e2 with e2 e3
      exact ⟨b :: a :: r, List.Perm.swap a b r, by rw [e1, e2, e3]; rfl⟩
  | trans _ _ ih1 ih2 =>
    intro l e
    obtain ⟨l2, p2, e2⟩ := ih2 l e
    obtain ⟨l1, p1, e1⟩ := ih1 l2 e2
    exact ⟨l1, p1.trans p2, e1⟩
theorem filter_perm {a b : List Nat} (h : a.Perm b) : R9.filter (fun i => decide (i ∈ a)) = R9.filter fun i => decide (i ∈ b) :=
  List.filter_congr fun i _ => decide_eq_decide.mpr h.mem_iff
def kS2 : List Str := kS ++ [("" : Str), ("q" : Str)]
theorem kS2_no : K13.all (fun k => kS2.all fun z => !decide (z ∈ rS (KR k))) = true := by decide +kernel
theorem weak_in (b : Nat) : weak (sub b) ∈ K13 := (weak_head fun n hn => sub_in hn).2
theorem shp_kS2 : ∀ z ∈ kS2, Shp 0 (.str z) := by
  have h : kS2.all (fun z => (PyData.str z).canLay0) = true := by decide +kernel
  exact fun z hz => ⟨List.all_eq_true.mp h z hz, Nat.le_refl _⟩
theorem RuAt.but {p : Addr} {kvs : List (Key × V)} {H H' : Hp} {C q : Addr} {s : List Nat} (hp : H p = some (.dK kvs)) (h : RuAt H C q s) (e : But p H H') : RuAt H' C q s := by
  obtain ⟨dx, t, h1, h2⟩ := h
  exact ⟨dx, t, e.1 _ _ h1 (ne_of h1 hp (by intro z; cases z)), e.1 _ _ h2 (ne_of h2 hp (by intro z; cases z))⟩
section
variable {K : PySem.W.Frag} {P : Program} {w : World} {base : Heap} {mg : Str → Option Value} {aR aD C : Addr} {T : Nat → Addr}
def spLaw (K : PySem.W.Frag) : Sp := fun vs H Q _ => ∃ (a : Addr) (ns : List Int), vs = [.ref a] ∧ SqL K H a (ns.map V.int) ∧ ns.length ≤ 63 ∧ ∀ H', Q (.bl true) H'
end

end Fp

/-! more rules at a written part K -/
namespace Fp
open PySem PySem.Spec PyProof.Rows L2
section
variable {X : Cx} {K : PySem.W.Frag}
/-- == of data, the one side flat enough -/
def rEqC (K : PySem.W.Frag) : R2 := fun x y H Q => ∃ d e, Dp K H x d ∧ Dp K H y e ∧ d.canLay0 = true ∧ e.canLay0 = true ∧ min d.depth e.depth ≤ 64 ∧ Q (.bl (PyData.eqv d e)) H
def rNeC (K : PySem.W.Frag) : R2 := fun x y H Q => ∃ d e, Dp K H x d ∧ Dp K H y e ∧ d.canLay0 = true ∧ e.canLay0 = true ∧ min d.depth e.depth ≤ 64 ∧ Q (.bl (!PyData.eqv d e)) H
theorem op_eqC (hu : X.A.units + 64 < cLine) (hK : X.K = K := by rfl) : OpR X (compareOp .Eq) (rEqC K) := by
  subst hK
  intro pins s σ H x y v u Q I rx ry h
  obtain ⟨d, e, hd, he, sd, se, hm, q⟩ := h
  obtain ⟨as, r1⟩ := Dp.reads I d x v hd rx
  obtain ⟨bs, r2⟩ := Dp.reads I e y u he ry
  exact SeqAt.compareEq_reads r1 r2 sd se (by omega) ⟨.bl _, H, I, rfl, q⟩
theorem op_neC (hu : X.A.units + 64 < cLine) (hK : X.K = K := by rfl) : OpR X (compareOp .NotEq) (rNeC K) := by
  subst hK
  intro pins s σ H x y v u Q I rx ry h
  obtain ⟨d, e, hd, he, sd, se, hm, q⟩ := h
  obtain ⟨as, r1⟩ := Dp.reads I d x v hd rx
  obtain ⟨bs, r2⟩ := Dp.reads I e y u he ry
  exact SeqAt.compareNe_reads r1 r2 sd se (by omega) ⟨.bl _, H, I, rfl, q⟩
theorem call_isi1 (hK : X.K = K := by rfl) : CallR X (.builtin "isinstance") (rIsi K) := hK ▸ call_isi
theorem cr_sumK (hc : X.calm = true) (hK : X.K = K := by rfl) : CallR X (.builtin "sum") (rSum K) := hK ▸ cr_sum hc
def tTru (K : PySem.W.Frag) (ta : TE) : TT := fun σ H Q => ta σ H fun x H' => ∃ k, TruV K x H' k ∧ Q k H'
theorem pt_truthK {a : Expr} {ta : TE} (ha : PE X a ta) (he : ∀ whole, isTrue a X.env whole = (do let v ← whole; standAt a.pos; holding [v] (truthy v)) := by exact fun _ => rfl) (hK : X.K = K := by rfl) : PT X a (tTru K ta) := by
  subst hK
  exact pt_truth ha he
theorem pe_revK {e : Expr} {te : TE} {k : Nat} {p1 p2 p3 pos : Pos} (he : PE X e te) (hK : X.K = K := by rfl) : PE X (.Subscript e (.Slice none none (some (.UnaryOp .USub (.Constant (.int 1) k p1) p2)) p3) pos) (tRevL K te) := by
  subst hK
  exact pe_revL he
/-- a list against the empty one -/
theorem ne_nilC {H : Hp} {v : V} {q : Addr} {ds : List PyData} {Q : VK} (h : Dt H v (.list ds)) (hs : PyData.canLayAll0 ds = true) (hq : H q = some (.lst [])) (k : Q (.bl (!ds.isEmpty)) H) : rNeC K v (.ref q) H Q := by
  refine ⟨.list ds, .list [], h.dp, .lst (.inl (.inl hq)) .nil, hs, rfl, Nat.le_trans (Nat.min_le_right _ _) (by decide), ?_⟩
  cases ds <;> exact k
end
end Fp

/-! lambdas with parameters and without captured names: made, held, called -/
namespace Fp
open PySem PySem.Spec PyProof.Rows L2 LamX
/-- what a lambda is in the text -/
structure Lm where
  qual : Str
  ps : Arguments
  bd : Expr
  sc : Scope
def LamF (f c : Addr) (l : Lm) : HO := .ext fun h => ∃ pm ctv : Value, h.get? f = some (PySem.W.kla_obj "<lambda>" l.qual l.ps l.bd l.sc [] pm c ctv)
/-- the lambda stands at f -/
def LamAt (H : Hp) (f : Addr) (l : Lm) : Prop := ∃ c, H f = some (LamF f c l) ∧ H c = some (CodeO c l.qual)
theorem LamAt.ext {H H' : Hp} {f : Addr} {l : Lm} (h : LamAt H f l) (e : ExtN H H') : LamAt H' f l := by
  obtain ⟨c, h1, h2⟩ := h
  refine ⟨c, e _ _ h1 fun ps z => ?_, e _ _ h2 codeO_ne⟩
  unfold LamF at z
  cases z
theorem LamAt.same {H H' : Hp} {f : Addr} {l : Lm} (h : LamAt H f l) (e : Same H H') : LamAt H' f l := h.ext (ExtN.of e)
section
variable {X : Cx} {pins : List (Addr × Obj)} {σ : L2.St} {H : Hp} {s : Shared}
theorem lam_lay {f c : Addr} {l : Lm} {pm ctv : Value} {hp : Heap} {tk : Nat} (I : Inv X pins σ H { s with heap := hp, toks := tk }) (ef : f = hp.objs.size) (hc : H c = some (CodeO c l.qual)) :
    Inv X pins σ (upd H f (LamF f c l)) { s with heap := hp.push (PySem.W.kla_obj "<lambda>" l.qual l.ps l.bd l.sc [] pm c ctv), toks := tk } := by
  have kp : ∀ b u, hp.get? b = some u → (hp.push (PySem.W.kla_obj "<lambda>" l.qual l.ps l.bd l.sc [] pm c ctv)).get? b = some u := fun b u z => Heap.get?_push_of_some _ z
  have gf : (hp.push (PySem.W.kla_obj "<lambda>" l.qual l.ps l.bd l.sc [] pm c ctv)).get? f = some (PySem.W.kla_obj "<lambda>" l.qual l.ps l.bd l.sc [] pm c ctv) := by
    rw [ef]
    exact Heap.get?_push_size _ rfl
  exact Inv.laid (s := { s with heap := hp, toks := tk }) (a := f) (o := LamF f c l) (t' := tk) I kp (Nat.le_of_eq ef.symm) ⟨⟨pm, ctv, gf⟩, ⟨_, gf⟩, fun h1 h2 ⟨a, b, z⟩ st => ⟨a, b, st _ z⟩⟩
/-- the table P of the code object c: which names its entries bear -/
structure Mak (base : Heap) (mg : Str → Option Value) (T : List (Addr × Str)) (cd : Value) (q : Str) : Prop where
  ex : ∃ c P, cd = .ref c ∧ TabB base mg c P ∧ (P, q) ∈ T ∧ ∀ p ∈ T, p.1 = P → p.2 = q
def tLamV (T : List (Addr × Str)) (l : Lm) : TE := fun _ H Q => Tabs T H ∧ ∀ f H1, ExtN H H1 → Tabs T H1 → LamAt H1 f l → Q (.ref f) H1
theorem pe_lamV {T : List (Addr × Str)} {qual : Str} {params : Arguments} {body : Expr} {scope : Scope} {pos : Pos} (M : Mak X.base X.mg T X.env.code qual) (hq : qual = X.env.qual ++ "<lambda>") (hdef : defaultsOf params X.env = ([], [])) (hfree : ∀ y ∈ scope.names, y.2 ≠ .free) (hcl : cloFrom X.env.cells scope.names [] = []) :
    PE X (.Lambda params body scope pos) (tLamV T ⟨qual, params, body, scope⟩) := by
  subst hq
  refine ⟨fun pins s σ H Q I hyp => ?_⟩
  obtain ⟨hT, hyp⟩ := hyp
  obtain ⟨c, P, hcode, TB, hm, hu⟩ := M.ex
  obtain ⟨ps, hP, ht, ha⟩ := hT _ hm
  refine PySem.W.kla_eval hdef ?_
  have b1 : s.heap.BuiltinsAt X.mg P := TB.bm.keeps I.bk
  have b2 : s.heap.get? P = some { cls := .none, data := .fields ps } := I.hok P _ hP
  have b3 := I.mod.glob.keeps I.bk
  have b4 := TB.code.keeps I.bk
  have clo := closure_ok (env := X.env) (scope := scope) fun y hy e => absurd e (hfree y hy)
  rw [hcl] at clo
  cases hc : codeAmong pos ps.toList with
  | none =>
    refine PySem.W.kla_makeFunction (mg := X.mg) (c := c) (P := P) (ps := ps) clo I.ok.glob b3 hcode b4 b2 ht hc TB.gP b1 fun c' ctv h' tk hx hge hlt hrec htb => ?_
    obtain ⟨c2, oc, vs, t, e2, hoc, hd, hv⟩ := hrec
    cases e2
    have nC : H c' = none := I.hok.fresh hge
    have nP : P ≠ c' := ne_of_none hP nC
    have I1 := inv_table (q := X.env.qual ++ "<lambda>") (t' := tk) (more := #[rawInt pos.line, rawInt pos.col, .ref c']) I hP hx htb hge ⟨oc, vs, t, hoc, hd, hv⟩
    have E1 : ExtN H (upd (upd H P (.tbl (ps ++ #[rawInt pos.line, rawInt pos.col, .ref c']))) c' (CodeO c' (X.env.qual ++ "<lambda>"))) := fun b o e n => by
      rw [upd_ne (ne_of_none e nC), upd_ne]
      · exact e
      · intro z
        rw [z, hP] at e
        exact n ps (Option.some.inj e).symm
    have T1 : Tabs T (upd (upd H P (.tbl (ps ++ #[rawInt pos.line, rawInt pos.col, .ref c']))) c' (CodeO c' (X.env.qual ++ "<lambda>"))) := fun p hp => by
      by_cases hb : p.1 = P
      · rw [hu p hp hb, hb]
        have eL : (ps ++ #[rawInt pos.line, rawInt pos.col, .ref c']).toList = ps.toList ++ [rawInt pos.line, rawInt pos.col, .ref c'] := by simp
        refine ⟨_, (upd_ne nP).trans upd_same, eL ▸ PySem.TriplesOk_snoc _ _ _ _ ht, fun p' cv z => ?_⟩
        rw [eL] at z
        rcases among_app _ ht z with z | z
        · obtain ⟨c0, e1, e2⟩ := ha p' cv z
          exact ⟨c0, e1, E1 _ _ e2 codeO_ne⟩
        · exact ⟨c', z, upd_same⟩
      · obtain ⟨ps', a1, a2, a3⟩ := hT p hp
        refine ⟨ps', by rw [upd_ne (ne_of_none a1 nC), upd_ne hb]; exact a1, a2, fun p' cv z => ?_⟩
        obtain ⟨c0, e1, e2⟩ := a3 p' cv z
        exact ⟨c0, e1, E1 _ _ e2 codeO_ne⟩
    have nF : (upd (upd H P (.tbl (ps ++ #[rawInt pos.line, rawInt pos.col, .ref c']))) c' (CodeO c' (X.env.qual ++ "<lambda>"))) h'.objs.size = none := I1.hok.fresh (Nat.le_refl _)
    have I2 := lam_lay (f := h'.objs.size) (c := c') (l := ⟨X.env.qual ++ "<lambda>", params, body, scope⟩) (pm := (X.mg "__name__").getD .none) (ctv := ctv) I1 rfl upd_same
    have E2 := same_new (o := LamF h'.objs.size c' ⟨X.env.qual ++ "<lambda>", params, body, scope⟩) nF
    exact ⟨.ref _, _, I2, rfl, hyp _ _ (E1.trans (ExtN.of E2)) (T1.ext E2) ⟨c', upd_same, E2 _ _ upd_same⟩⟩
  | some cv =>
    obtain ⟨c', e, hco⟩ := ha pos cv hc
    subst e
    refine PySem.W.kla_makeFunctionHit (mg := X.mg) (c := c) (P := P) (ps := ps) clo I.ok.glob b3 hcode b4 b2 ht hc b1 fun ctv h' tk hx hsz => ?_
    have I1 : Inv X pins σ H { s with heap := h', toks := tk } := I.kept hx
    have nF : H h'.objs.size = none := I1.hok.fresh (Nat.le_refl _)
    have I2 := lam_lay (f := h'.objs.size) (c := c') (l := ⟨X.env.qual ++ "<lambda>", params, body, scope⟩) (pm := (X.mg "__name__").getD .none) (ctv := ctv) I1 rfl hco
    have E2 := same_new (o := LamF h'.objs.size c' ⟨X.env.qual ++ "<lambda>", params, body, scope⟩) nF
    exact ⟨.ref _, _, I2, rfl, hyp _ _ (ExtN.of E2) (hT.ext E2) ⟨c', upd_same, E2 _ _ hco⟩⟩
end
/-! ### its call -/
/-- what the lambda promises: its body as a term -/
structure LamOk (P : Program) (w : World) (K : PySem.W.Frag) (mg : Str → Option Value) (base : Heap) (k : Nat) (l : Lm) (N : List Str) (sp : Sp) : Prop where
  scope : FnScope N N l.sc
  binds : ∀ (c : Value) (pm ctv : Value) (us : List Value), us.length = N.length → bindArgs (PySem.W.kla_fn "<lambda>" l.qual l.ps l.bd l.sc [] pm c ctv) ⟨us, []⟩ = pure (N.zip us)
  len : ∀ vs H Q, sp vs H Q E0 → vs.length = N.length
  body : ∀ (f c : Addr) (A : Around) (outer : List Env) (s : Shared) (H : Hp) (vs : List V) (Q : VK), Room k (A.deeper (envOfC l.qual l.sc s.heap.objs.size f (.ref c))) → sp vs H Q E0 →
    ∃ t, PE (cxOf CX0 P w K mg base N l.qual l.sc f (.ref c) A outer s H E0) l.bd t ∧ t (L2.start N vs) H Q
theorem vals_len : ∀ {vs : List V} {us : List Value}, Vals vs us → vs.length = us.length
  | _, _, .nil => rfl
  | _, _, .cons _ r => congrArg Nat.succ (vals_len r)
theorem run_lam {P : Program} {w : World} {K : PySem.W.Frag} {mg : Str → Option Value} {base : Heap} {k : Nat} {l : Lm} {N : List Str} {sp : Sp} {A : Around} {outer : List Env} {s : Shared} {H : Hp} {f : Addr} {us : List Value} {vs : List V} {Q : VK}
    (L : LamOk P w K mg base k l N sp) (hl : LamAt H f l) (hr : Room (k + 1) A) (e0 : Env0 P w K mg base A outer s H) (r : Vals vs us) (h : sp vs H Q E0) :
    codeAny (model P w) A (.call (.ref f) ⟨us, []⟩) (CR CX0 outer P w H s Q E0) s := by
  obtain ⟨c, h1, h2⟩ := hl
  obtain ⟨⟨pm, ctv, of⟩, _, _⟩ := e0.hok f _ h1
  obtain ⟨⟨oc, vv, t, hoc, hdc, hvc⟩, _, _⟩ := e0.hok c _ h2
  have lenU : us.length = N.length := by rw [← L.len vs H Q h]; exact (vals_len r).symm
  have lim : s.heap.NoLimit := e0.mod.nolimit.keeps fun b o e => (e0.bs b o e).1
  have hkind : ∀ y ∈ N.zip us, l.sc.names.lookup y.1 = some .local ∨ (l.sc.names.lookup y.1 = some .cell ∧ ((cellsFrom (s.heap.objs.size + 1) l.sc.names []).lookup y.1).isSome = true) := fun ⟨n, v⟩ hy => by
    rcases L.scope.par n (List.of_mem_zip hy).1 with q | q
    · exact .inl q
    · exact .inr ⟨q, PySem.W.cellsFrom_some _ _ _ (.inl q)⟩
  refine PySem.W.kla_callFunE hr.depth of rfl L.scope.co L.scope.gen rfl ⟨c, oc, vv, t, rfl, hoc, hdc, hvc⟩ ?_
  rw [L.binds _ _ _ _ lenU]
  refine wpAny_pure (wpAny_newFunctionEnv_cells L.scope.kind hkind fun env he s1 x => ?_)
  subst he
  refine ⟨lim.keeps x.toInCall.keep, PySem.W.kla_codeExpr ?_⟩
  obtain ⟨te, ht, hq⟩ := L.body f c A outer s H vs Q (hr.deeper _) h
  have I : Inv (cxOf CX0 P w K mg base N l.qual l.sc f (.ref c) A outer s H E0) [] (L2.start N vs) H s1 := inv_start L.scope hr.hd e0 (L.len vs H Q h) r x
  refine wpAny_mono (ht.run [] s1 (L2.start N vs) H Q I hq) (fun v s' hs => ?_) fun e s' hs => hs
  obtain ⟨w', H', J, rv, q⟩ := hs
  exact ⟨w', H', J.os, J.bare, J.base, J.hok, rv, q⟩
/-- a function of the text, or a lambda, at f -/
def OpAt (P : Program) (w : World) (K : PySem.W.Frag) (mg : Str → Option Value) (base : Heap) (k : Nat) (f : Addr) (sp : Sp) (H : Hp) : Prop :=
  Held P w K mg base k f sp ∨ ∃ l N, LamAt H f l ∧ LamOk P w K mg base (k - 1) l N sp ∧ 0 < k
theorem OpAt.ext {P : Program} {w : World} {K : PySem.W.Frag} {mg : Str → Option Value} {base : Heap} {k : Nat} {f : Addr} {sp : Sp} {H H' : Hp} (h : OpAt P w K mg base k f sp H) (e : ExtN H H') : OpAt P w K mg base k f sp H' := by
  rcases h with h | ⟨l, N, a, b, c⟩
  · exact .inl h
  · exact .inr ⟨l, N, a.ext e, b, c⟩
def tCallO (P : Program) (w : World) (K : PySem.W.Frag) (mg : Str → Option Value) (base : Heap) (k i : Nat) (t : TA) : TE := fun σ H Q => ∃ f sp, σ[i]? = some (some (.ref f)) ∧ OpAt P w K mg base k f sp H ∧ t σ H fun vs H1 => ExtN H H1 ∧ sp vs H1 Q E0
theorem pe_callO {X : Cx} {k i : Nat} {x : Str} {p pos : Pos} {e : Expr} {es : List Expr} {t : TA} (hr : Room k X.A) (hN : X.N[i]? = some x) (hv : Vis X.env.scope x) (ha : PA X (e :: es) t)
    (hdb : (x == ("__debug__" : Str)) = false := by decide) (hcd : (x == ("__classdict__" : Str)) = false := by decide)
    (he : starEach (e :: es) X.env = (false, eval e X.env) :: starEach es X.env := by rfl) (hpl : (backTo pos (starEach es X.env)).any (·.1) = false := by rfl) :
    PE X (.Call (.Name x p) (e :: es) [] pos) (tCallO X.prog X.w X.K X.mg X.base k i t) := by
  refine ⟨fun pins s σ H Q I h => ?_⟩
  obtain ⟨f, sp, hs, hO, ht⟩ := h
  rcases hO with hK | ⟨l, N, hl, hL, hk⟩
  · obtain ⟨fd, ps, F, hk, hb⟩ := hK.ex
    refine wpAny_Call_Name_kw (thn ((pe_var (pos := p) hN hv hdb hcd).run pins s σ H (fun v H1 => v = .ref f ∧ H1 = H) I ⟨.ref f, hs, rfl, rfl⟩) fun u s1 ⟨v, H1, I1, r1, q1⟩ => ?_)
    obtain ⟨rfl, rfl⟩ := q1
    cases r1
    refine PySem.W.callWith_K (h₀ := X.base) I.ok.mod.kin hk (thn (ha.run pos pins s1 σ _ _ I1 ht) fun us s2 ⟨vs, H2, I2, r, q⟩ => ⟨I2.kIn, ?_⟩) he hpl
    have q2 : sp (vs ++ []) H2 Q E0 := by
      rw [List.append_nil]
      exact q.2
    exact run_fn F hr hb .nil (fun _ _ _ _ _ _ _ z => z.elim) I2 r q2
  · obtain ⟨j, rfl⟩ : ∃ j, k = j + 1 := ⟨k - 1, by omega⟩
    refine wpAny_Call_Name_kw (thn ((pe_var (pos := p) hN hv hdb hcd).run pins s σ H (fun v H1 => v = .ref f ∧ H1 = H) I ⟨.ref f, hs, rfl, rfl⟩) fun u s1 ⟨v, H1, I1, r1, q1⟩ => ?_)
    obtain ⟨rfl, rfl⟩ := q1
    cases r1
    have fnA : ∀ {Hx : Hp} {sx : Shared}, LamAt Hx f l → Inv X pins σ Hx sx → PySem.W.FnAt f sx.heap := fun {Hx sx} z J => by
      obtain ⟨c, h1, _⟩ := z
      obtain ⟨⟨pm, ctv, of⟩, _, _⟩ := J.hok f _ h1
      exact ⟨_, _, _, _, of⟩
    refine PySem.W.callWith_F (fnA hl I1) (thn (ha.run pos pins s1 σ _ _ I1 ht) fun us s2 ⟨vs, H2, I2, r, q⟩ => ⟨fnA (hl.ext q.1) I2, ?_⟩) he hpl
    refine wpAny_call (codeAny_mono (run_lam hL (hl.ext q.1) hr I2.env0 r q.2) fun r' s3 hq => ?_)
    cases r' with
    | error e => exact hq.elim
    | ok fl =>
      cases fl with
      | ret u => exact I2.after hq
      | next => exact False.elim hq
      | brk => exact False.elim hq
      | cont => exact False.elim hq
theorem pe_callOK {X : Cx} {P : Program} {w : World} {K : PySem.W.Frag} {mg : Str → Option Value} {base : Heap} {k i : Nat} {x : Str} {p pos : Pos} {e : Expr} {es : List Expr} {t : TA} (hr : Room k X.A) (hN : X.N[i]? = some x) (hv : Vis X.env.scope x) (ha : PA X (e :: es) t)
    (h1 : X.prog = P := by rfl) (h2 : X.w = w := by rfl) (h3 : X.K = K := by rfl) (h4 : X.mg = mg := by rfl) (h5 : X.base = base := by rfl)
    (hdb : (x == ("__debug__" : Str)) = false := by decide) (hcd : (x == ("__classdict__" : Str)) = false := by decide)
    (he : starEach (e :: es) X.env = (false, eval e X.env) :: starEach es X.env := by rfl) (hpl : (backTo pos (starEach es X.env)).any (·.1) = false := by rfl) :
    PE X (.Call (.Name x p) (e :: es) [] pos) (tCallO P w K mg base k i t) := by
  subst h1 h2 h3 h4 h5
  exact pe_callO hr hN hv ha hdb hcd he hpl
/-- a def whose code object is known -/
theorem fn_cd {P : Program} {w : World} {K : PySem.W.Frag} {mg : Str → Option Value} {base : Heap} {x qual : Str} {st : Stmt} {f : Addr} {N ps : List Str} {k : Nat} {sp : Sp} {oc kV doc pm cdv ct : Value} {od an : Option Addr} {osl : Array (Option Value)}
    (lk : K.lookup f = some ⟨oc, od, .func (PySem.W.fnOf x qual (defArgs st) (defBody st) (defScope st) .none kV doc pm an cdv ct), osl⟩) (hcd : PySem.W.codeIn K cdv qual = true) (S : FnScope N ps (defScope st)) (len : ∀ vs H Q E, sp vs H Q E → vs.length = ps.length)
    (hb : ∀ (A : Around) (outer : List Env) (s : Shared) (H : Hp) (vs : List V) (Q : VK) (E : XK), Room k (A.deeper (envOfC qual (defScope st) s.heap.objs.size f cdv)) → sp vs H Q E →
      ∃ t, PSs (cxOf CX0 P w K mg base N qual (defScope st) f cdv A outer s H E).nox (defBody st) t ∧ t { nx := fun _ H' => Q .non H', rt := Q } (start N vs) H) :
    FnOk P w K mg base CX0 (k + 1) f (PySem.W.fnOf x qual (defArgs st) (defBody st) (defScope st) .none kV doc pm an cdv ct) ps sp := by
  refine fn_of lk hcd S len fun A outer s H vs Q E hr hsp => ?_
  obtain ⟨t, h, q⟩ := hb A outer s H vs Q E hr hsp
  exact ⟨t, h.nox, q⟩
theorem tabs_but {T : List (Addr × Str)} {H H' : Hp} {p : Addr} {kvs : List (Key × V)} (hp : H p = some (.dK kvs)) (e : But p H H') (t : Tabs T H) : Tabs T H' := fun x hx => by
  obtain ⟨ps, h1, h2, h3⟩ := t x hx
  refine ⟨ps, e.1 _ _ h1 (ne_of h1 hp (by intro z; cases z)), h2, fun pos cv hc => ?_⟩
  obtain ⟨c, e1, e2⟩ := h3 pos cv hc
  refine ⟨c, e1, e.1 _ _ e2 (ne_of e2 hp ?_)⟩
  intro z
  unfold CodeO at z
  cases z
end Fp

/-! trees of letters -/
namespace Fp
open PySem PySem.Spec PyProof.Rows L2
inductive Tr where
  | leaf (n : Int)
  | node (l r : Tr)
def Tr.dat : Tr → PyData
  | .leaf n => .int n
  | .node l r => .tuple [l.dat, r.dat]
def Tr.post : Tr → List (Option Int)
  | .leaf n => [some n]
  | .node l r => l.post ++ r.post ++ [none]
def Tr.lets : Tr → List Int
  | .leaf n => [n]
  | .node l r => l.lets ++ r.lets
/-- nodes of both sorts, brackets twice -/
def Tr.sz : Tr → Nat
  | .leaf _ => 1
  | .node l r => l.sz + r.sz + 2
def oD : Option Int → PyData
  | none => .none
  | some n => .int n
theorem Tr.lay : ∀ t : Tr, t.dat.canLay0 = true
  | .leaf _ => rfl
  | .node l r => by
    show (l.dat.canLay0 && (r.dat.canLay0 && true)) = true
    rw [l.lay, r.lay]
    rfl
theorem Tr.post_len : ∀ t : Tr, t.post.length ≤ t.sz
  | .leaf _ => Nat.le_refl _
  | .node l r => by
    have h1 := l.post_len
    have h2 := r.post_len
    show (l.post ++ r.post ++ [none]).length ≤ l.sz + r.sz + 2
    rw [List.length_append, List.length_append, List.length_singleton]
    omega
theorem Tr.sz_lets : ∀ t : Tr, t.sz + 2 = 3 * t.lets.length
  | .leaf _ => rfl
  | .node l r => by
    have h1 := l.sz_lets
    have h2 := r.sz_lets
    show l.sz + r.sz + 2 + 2 = 3 * (l.lets ++ r.lets).length
    rw [List.length_append]
    omega
theorem Tr.post_lets : ∀ t : Tr, t.post.filterMap id = t.lets
  | .leaf _ => rfl
  | .node l r => by
    show (l.post ++ r.post ++ [none]).filterMap id = l.lets ++ r.lets
    rw [List.filterMap_append, List.filterMap_append, l.post_lets, r.post_lets]
    exact List.append_nil _
theorem post_filter : ∀ xs : List (Option Int), (xs.filter fun x => x.isSome).map oD = (xs.filterMap id).map PyData.int
  | [] => rfl
  | none :: xs => post_filter xs
  | some n :: xs => congrArg (PyData.int n :: ·) (post_filter xs)
theorem Tr.post_mem {t : Tr} {n : Int} (h : some n ∈ t.post) : n ∈ t.lets := by
  rw [← t.post_lets]
  exact List.mem_filterMap.mpr ⟨_, h, rfl⟩
theorem Tr.lets_pos : ∀ t : Tr, 0 < t.lets.length
  | .leaf _ => Nat.one_pos
  | .node l r => by
    show 0 < (l.lets ++ r.lets).length
    rw [List.length_append]
    exact Nat.lt_of_lt_of_le l.lets_pos (Nat.le_add_right _ _)
/-! ### what waits -/
def wD : Option Tr → PyData
  | none => .none
  | some t => t.dat
def wPost : Option Tr → List (Option Int)
  | none => [none]
  | some t => t.post
def wSz : Option Tr → Nat
  | none => 1
  | some t => t.sz
def oV : Option Int → V
  | none => .non
  | some n => .int n
theorem dts_o {H : Hp} : ∀ xs : List (Option Int), Dts H (xs.map oV) (xs.map oD)
  | [] => .nil
  | none :: xs => .cons .non (dts_o xs)
  | some n :: xs => .cons (.int n) (dts_o xs)
theorem dts_split {H : Hp} : ∀ {ds es : List PyData} {vs : List V}, Dts H vs (ds ++ es) → ∃ a b, vs = a ++ b ∧ Dts H a ds ∧ Dts H b es
  | [], _, vs, h => ⟨[], vs, rfl, .nil, h⟩
  | _ :: ds, es, _, .cons h t => by
    obtain ⟨a, b, e, h1, h2⟩ := dts_split (ds := ds) t
    exact ⟨_ :: a, b, by rw [e]; rfl, .cons h h1, h2⟩
theorem Dts.one {H : Hp} {d : PyData} {vs : List V} (h : Dts H vs [d]) : ∃ v, vs = [v] ∧ Dt H v d := by
  cases h with
  | cons a b =>
    cases b
    exact ⟨_, rfl, a⟩
theorem snoc_cases {α : Type} (l : List α) : l = [] ∨ ∃ a x, l = a ++ [x] := by
  rcases List.eq_nil_or_concat l with h | ⟨a, x, h⟩
  · exact .inl h
  · exact .inr ⟨a, x, by rw [h, List.concat_eq_append]⟩
def wSum (ws : List (Option Tr)) : Nat := (ws.map wSz).sum
theorem wSum_app (a b : List (Option Tr)) : wSum (a ++ b) = wSum a + wSum b := by
  unfold wSum
  rw [List.map_append, List.sum_append]
theorem wD_post (ws : List (Option Tr)) (x : Option Tr) : (ws ++ [x]).reverse.flatMap wPost = wPost x ++ ws.reverse.flatMap wPost := by
  rw [List.reverse_append]
  rfl
def tSum (ws : List Tr) : Nat := (ws.map Tr.sz).sum
theorem tSum_app (a b : List Tr) : tSum (a ++ b) = tSum a + tSum b := by
  unfold tSum
  rw [List.map_append, List.sum_append]
theorem tSum_len : ∀ l : List Tr, l.length ≤ tSum l
  | [] => Nat.le_refl _
  | t :: l => by
    have h := tSum_len l
    have h2 : 1 ≤ t.sz := by cases t <;> exact Nat.succ_le_succ (Nat.zero_le _)
    show l.length + 1 ≤ t.sz + tSum l
    omega
theorem lay_trees : ∀ ws : List Tr, PyData.canLayAll0 (ws.map Tr.dat) = true
  | [] => rfl
  | t :: ws => by
    show (t.dat.canLay0 && PyData.canLayAll0 (ws.map Tr.dat)) = true
    rw [t.lay, lay_trees ws]
    rfl
theorem snoc_lets (ws : List Tr) (x : Tr) : (ws ++ [x]).reverse.flatMap Tr.lets = x.lets ++ ws.reverse.flatMap Tr.lets := by
  rw [List.reverse_append]
  rfl
theorem split2 {α : Type} : ∀ (l : List α) (i : Nat), i + 1 < l.length → ∃ a x y b, l = a ++ x :: y :: b ∧ a.length = i
  | [], _, h => absurd h (Nat.not_lt_zero _)
  | [_], i, h => absurd h (by simp)
  | x :: y :: b, 0, _ => ⟨[], x, y, b, rfl, rfl⟩
  | z :: l, i + 1, h => by
    obtain ⟨a, x, y, b, e, ea⟩ := split2 l i (Nat.lt_of_succ_lt_succ h)
    exact ⟨z :: a, x, y, b, by rw [e]; rfl, by rw [← ea]; rfl⟩
theorem cut_from (xs : List V) (k : Nat) : cutV xs (some (k : Int)) none = xs.drop k := by
  unfold cutV
  rw [HT.sIx_none, show HT.sIx xs.length 0 (some (k : Int)) = min k xs.length from HT.sIx_nat _ _ k]
  rcases Nat.le_total k xs.length with h | h
  · rw [Nat.min_eq_left h, List.take_of_length_le (by rw [List.length_drop]; exact Nat.le_refl _)]
  · rw [Nat.min_eq_right h, List.drop_of_length_le h, List.drop_of_length_le (Nat.le_refl _)]
    exact List.take_nil
theorem dts_cons {H : Hp} {d : PyData} {ds : List PyData} {vs : List V} (h : Dts H vs (d :: ds)) : ∃ v ws, vs = v :: ws ∧ Dt H v d ∧ Dts H ws ds := by
  cases h with
  | cons a b => exact ⟨_, _, rfl, a, b⟩
theorem cut_last (xs : List V) (x : V) : cutV (xs ++ [x]) none (some (-1)) = xs := by
  unfold cutV
  have e : HT.sIx (xs ++ [x]).length (xs ++ [x]).length (some (-1)) = xs.length := by
    show (if (-1 : Int) < 0 then ((-1 : Int) + ((xs ++ [x]).length : Int)).toNat else min (-1 : Int).toNat (xs ++ [x]).length) = _
    rw [if_pos (by decide), List.length_append, List.length_singleton]
    omega
  rw [HT.sIx_none, e]
  show List.take (xs.length - 0) (xs ++ [x]) = xs
  rw [Nat.sub_zero]
  exact List.take_left
/-! ### put together again -/
def reb : List (Option Int) → List Tr → Option (List Tr)
  | [], s => some s
  | some n :: xs, s => reb xs (.leaf n :: s)
  | none :: xs, r :: l :: s => reb xs (.node l r :: s)
  | none :: _, _ => none
theorem reb_post : ∀ (t : Tr) (xs : List (Option Int)) (s : List Tr), reb (t.post ++ xs) s = reb xs (t :: s)
  | .leaf _, _, _ => rfl
  | .node l r, xs, s => by
    show reb (l.post ++ r.post ++ [none] ++ xs) s = _
    rw [List.append_assoc, List.append_assoc, reb_post l, reb_post r]
    rfl
def lvs (s : List Tr) : Nat := (s.map fun t => t.lets.length).sum
theorem reb_lvs : ∀ (xs : List (Option Int)) (s s' : List Tr), reb xs s = some s' → lvs s ≤ lvs s'
  | [], s, s', h => by
    cases h
    exact Nat.le_refl _
  | some n :: xs, s, s', h => by
    have := reb_lvs xs (.leaf n :: s) s' h
    have e : lvs (.leaf n :: s) = 1 + lvs s := rfl
    omega
  | none :: xs, [], s', h => nomatch h
  | none :: xs, [_], s', h => nomatch h
  | none :: xs, r :: l :: s, s', h => by
    have := reb_lvs xs (.node l r :: s) s' h
    have e : lvs (.node l r :: s) = (l.lets ++ r.lets).length + lvs s := rfl
    have e2 : lvs (r :: l :: s) = r.lets.length + (l.lets.length + lvs s) := rfl
    rw [List.length_append] at e
    omega
/-! ### behind a lambda's making -/
mutual
theorem Dt.ext {H H' : Hp} (e : LamX.ExtN H H') : ∀ {d : PyData} {v : V}, Dt H v d → Dt H' v d
  | .none, _, .non => .non
  | .bool _, _, .bl b => .bl b
  | .int _, _, .int i => .int i
  | .str _, _, .str x => .str x
  | .list ds, _, .lst h t => .lst (e _ _ h (by intro ps z; cases z)) (Dts.ext e t)
  | .tuple ds, _, .tup h t => .tup (e _ _ h (by intro ps z; cases z)) (Dts.ext e t)
theorem Dts.ext {H H' : Hp} (e : LamX.ExtN H H') : ∀ {ds : List PyData} {vs : List V}, Dts H vs ds → Dts H' vs ds
  | [], _, .nil => .nil
  | _ :: _, _, .cons h t => .cons (Dt.ext e h) (Dts.ext e t)
end
theorem PenOk.ext {H H' : Hp} {p c : Addr} {t : Nat} (h : PenOk H p c t) (e : LamX.ExtN H H') : PenOk H' p c t := by
  obtain ⟨cells, turn, left, h1, h2, h3⟩ := h.ex
  exact ⟨cells, turn, left, e _ _ h1 (by intro ps z; cases z), e _ _ h2 (by intro ps z; cases z), h3⟩
theorem rng_at {m : Nat} {fv : V → V} {n : Int} (h0 : 0 ≤ n) (h1 : n < (m : Int)) : (((rngV 0 m).filter fun _ => true).map fv)[n.toNat]? = some (fv (.int n)) := by
  rw [List.filter_eq_self.mpr (fun _ _ => rfl), List.getElem?_map, rngV_at (by omega)]
  show some (fv (V.int (0 + (n.toNat : Int)))) = _
  rw [show (0 : Int) + (n.toNat : Int) = n by omega]
theorem rng_mem {m : Nat} {x : V} (h : x ∈ rngV 0 m) : ∃ i : Nat, i < m ∧ x = .int (i : Int) := by
  obtain ⟨i, hi, e⟩ := List.mem_map.mp h
  exact ⟨i, List.mem_range.mp hi, by rw [← e, Int.zero_add]⟩
/-! ### texts -/
theorem es_eq : (Str.ofString "") = Str.empty := by decide +kernel
theorem es_app (a : Str) : (Str.ofString "") ++ a = a := by rw [es_eq]; exact Str.empty_append a
theorem app_es (a : Str) : a ++ (Str.ofString "") = a := by rw [es_eq]; exact Str.append_empty a
def Tr.txt : Tr → Str
  | .leaf n => Str.ofString (toString n) ++ "."
  | .node l r => "(" ++ l.txt ++ r.txt ++ ")"
def wT : Option Tr → Str
  | none => ")"
  | some t => t.txt
def wTs : List (Option Tr) → Str
  | [] => ""
  | x :: xs => wT x ++ wTs xs
def wDs : Option Tr → PyData
  | none => .str ")"
  | some t => t.dat
theorem lay_ws : ∀ ws : List (Option Tr), PyData.canLayAll0 (ws.map wDs) = true
  | [] => rfl
  | none :: ws => by
    have h : (PyData.str ")").canLay0 = true := by decide +kernel
    show ((PyData.str ")").canLay0 && PyData.canLayAll0 (ws.map wDs)) = true
    rw [h, lay_ws ws]
    rfl
  | some t :: ws => by
    show (t.dat.canLay0 && PyData.canLayAll0 (ws.map wDs)) = true
    rw [t.lay, lay_ws ws]
    rfl
theorem num_len {n : Int} (h0 : 0 ≤ n) (h1 : n < 100) : (Str.ofString (toString n)).length ≤ 2 := by
  obtain ⟨m, rfl⟩ : ∃ m : Nat, n = m := ⟨n.toNat, by omega⟩
  rw [TL.len_tl, TL.tl_num]
  exact TL.numL_len (by decide) (by omega)
theorem num_log {n : Int} (h0 : 0 ≤ n) (h1 : n < 100) : n.natAbs.log2 < 1920 := by
  have h := Nat.log2_le_self n.natAbs
  omega
theorem Tr.txt_len : ∀ t : Tr, (∀ n ∈ t.lets, 0 ≤ n ∧ n < 100) → t.txt.length + 2 ≤ 8 * t.lets.length
  | .leaf n, h => by
    obtain ⟨h0, h1⟩ := h n (List.mem_singleton.mpr rfl)
    have := num_len h0 h1
    show (Str.ofString (toString n) ++ ".").length + 2 ≤ 8 * 1
    rw [Str.length_append]
    have e : ("." : Str).length = 1 := rfl
    omega
  | .node l r, h => by
    have h1 := l.txt_len fun n hn => h n (List.mem_append_left _ hn)
    have h2 := r.txt_len fun n hn => h n (List.mem_append_right _ hn)
    show ("(" ++ l.txt ++ r.txt ++ ")").length + 2 ≤ 8 * (l.lets ++ r.lets).length
    rw [Str.length_append, Str.length_append, Str.length_append, List.length_append]
    have e1 : ("(" : Str).length = 1 := rfl
    have e2 : (")" : Str).length = 1 := rfl
    omega
def spText : Sp := fun vs H Q _ => ∃ v t, vs = [v] ∧ Dt H v t.dat ∧ Tr.sz t ≤ 10000 ∧ (∀ n ∈ t.lets, 0 ≤ n ∧ n < 100) ∧ ∀ H', Same H H' → Q (.str t.txt) H'
def rStr (n : Nat) (x : V) : Prop := ∃ z, x = .str z ∧ z.length + 2 ≤ 8 * n
def gJoin : V → V → V
  | .str a, .str b => .str ("(" ++ a ++ b ++ ")")
  | _, _ => .non
theorem gJoin_ok (n m : Nat) (x y : V) (h1 : rStr n x) (h2 : rStr m y) : rStr (n + m) (gJoin x y) := by
  obtain ⟨a, rfl, ha⟩ := h1
  obtain ⟨b, rfl, hb⟩ := h2
  refine ⟨_, rfl, ?_⟩
  rw [Str.length_append, Str.length_append, Str.length_append]
  have e1 : ("(" : Str).length = 1 := rfl
  have e2 : (")" : Str).length = 1 := rfl
  omega
/-! ### values -/
def Tr.ev (vals : List V) (g : V → V → V) : Tr → V
  | .leaf n => vals.getD n.toNat .non
  | .node l r => g (l.ev vals g) (r.ev vals g)
/-- an operation on values that are no objects; R n: a value of n letters -/
def spOpn (N : Nat) (R : Nat → V → Prop) (g : V → V → V) : Sp := fun vs H Q _ => ∃ x y n m, vs = [x, y] ∧ R n x ∧ R m y ∧ n + m ≤ N ∧ ∀ H', Same H H' → Q (g x y) H'
def spTurn : Sp := fun vs H Q _ => ∃ v t, vs = [v] ∧ Dt H v t.dat ∧ Tr.sz t ≤ 10000 ∧ ∀ a H', H a = none → Same H H' → Dt H' (.ref a) (.list (t.post.map oD)) → Q (.ref a) H'
def spLets : Sp := fun vs H Q _ => ∃ v t, vs = [v] ∧ Dt H v t.dat ∧ Tr.sz t ≤ 10000 ∧ ∀ a H', H a = none → Same H H' → Dt H' (.ref a) (.list (t.lets.map PyData.int)) → Q (.ref a) H'
def spVal (P : Program) (w : World) (K : PySem.W.Frag) (mg : Str → Option Value) (base : Heap) (k : Nat) : Sp := fun vs H Q _ => ∃ v a f t vals g R N, vs = [v, .ref a, .ref f] ∧ Dt H v t.dat ∧ Tr.sz t ≤ 10000 ∧ H a = some (.lst vals) ∧ OpAt P w K mg base k f (spOpn N R g) H ∧
  (∀ n m x y, R n x → R m y → R (n + m) (g x y)) ∧ (∀ n ∈ t.lets, 0 ≤ n ∧ ∃ x, vals[n.toNat]? = some x ∧ R 1 x) ∧ t.lets.length ≤ N ∧ ∀ H', Same H H' → Q (t.ev vals g) H'
def spPick : Sp := fun vs H Q _ => ∃ p c o t ds, vs = [.ref p, o] ∧ PenOk H p c t ∧ t ≤ 900000000 ∧ Dt H o (.list ds) ∧ 0 < ds.length ∧ ds.length ≤ 900 ∧ ∀ v H' d, d ∈ ds → Dt H' v d → PenOk H' p c (t + 1) → But p H H' → Q v H'
theorem ev_txt {vals : List V} : ∀ t : Tr, (∀ n ∈ t.lets, vals[n.toNat]? = some (.str (Str.ofString (toString n) ++ "."))) → t.ev vals gJoin = .str t.txt
  | .leaf n, h => by
    show vals.getD n.toNat .non = _
    rw [List.getD_eq_getElem?_getD, h n (List.mem_singleton.mpr rfl)]
    rfl
  | .node l r, h => by
    show gJoin (l.ev vals gJoin) (r.ev vals gJoin) = _
    rw [ev_txt l fun n hn => h n (List.mem_append_left _ hn), ev_txt r fun n hn => h n (List.mem_append_right _ hn)]
    rfl
/-! sums, the first letter -/
def rInt (_ : Nat) (x : V) : Prop := ∃ i, x = .int i
def gAdd : V → V → V
  | .int a, .int b => .int (a + b)
  | _, _ => .non
def gFst : V → V → V := fun x _ => x
theorem ev_sum {vals : List V} (nm : Int → Int) : ∀ t : Tr, (∀ n ∈ t.lets, vals[n.toNat]? = some (.int (nm n))) → t.ev vals gAdd = .int (t.lets.map nm).sum
  | .leaf n, h => by
    show vals.getD n.toNat .non = .int (nm n + 0)
    rw [List.getD_eq_getElem?_getD, h n (List.mem_singleton.mpr rfl), Int.add_zero]
    rfl
  | .node l r, h => by
    show gAdd (l.ev vals gAdd) (r.ev vals gAdd) = .int ((l.lets ++ r.lets).map nm).sum
    rw [ev_sum nm l fun n hn => h n (List.mem_append_left _ hn), ev_sum nm r fun n hn => h n (List.mem_append_right _ hn), List.map_append, List.sum_append_int]
    rfl
theorem ev_fst {vals : List V} : ∀ t : Tr, ∃ n, t.lets[0]? = some n ∧ t.ev vals gFst = vals.getD n.toNat .non
  | .leaf n => ⟨n, rfl, rfl⟩
  | .node l r => by
    obtain ⟨n, h1, h2⟩ := ev_fst (vals := vals) l
    refine ⟨n, ?_, h2⟩
    show (l.lets ++ r.lets)[0]? = some n
    rw [List.getElem?_append_left l.lets_pos]
    exact h1
/-- bracketed at drawn places -/
def spBrk : Sp := fun vs H Q _ => ∃ p c v t ns, vs = [.ref p, v] ∧ PenOk H p c t ∧ t ≤ 800000000 ∧ Dt H v (.list (ns.map PyData.int)) ∧ 0 < ns.length ∧ ns.length ≤ 300 ∧
  ∀ (v' : V) (H' : Hp) (b : Tr), b.lets = ns → Dt H' v' b.dat → PenOk H' p c (t + ns.length) → But p H H' → Q v' H'
def spComb : Sp := fun vs H Q _ => ∃ (v : V) (way : Int) (ns : List Int), vs = [v, .int way] ∧ Dt H v (.list (ns.map PyData.int)) ∧ 0 < ns.length ∧ ns.length ≤ 1000 ∧ ∀ (v' : V) (H' : Hp) (b : Tr), b.lets = ns → Same H H' → Dt H' v' b.dat → Q v' H'
end Fp

/-! a text times 0, 1 or 2 -/
namespace Fp
open PySem PySem.Spec PyProof.Rows L2
/-- no sign of the text is past the last one -/
def OkS (w : Str) : Prop := (PyData.str w).canLay0 = true
instance (w : Str) : Decidable (OkS w) := inferInstanceAs (Decidable ((PyData.str w).canLay0 = true))
theorem okS_iff {w : Str} : OkS w ↔ ∀ c ∈ w.cps.toList, c < 1114112 := by
  have e : (PyData.str w).canLay0 = w.cps.all fun c => decide (c < 1114112) := by
    unfold PyData.canLay0
    rfl
  unfold OkS
  rw [e, ← Array.all_toList, List.all_eq_true]
  exact ⟨fun h c hc => of_decide_eq_true (h c hc), fun h c hc => decide_eq_true (h c hc)⟩
theorem okS_app {a b : Str} (ha : OkS a) (hb : OkS b) : OkS (a ++ b) := okS_iff.mpr fun c hc => by
  have e : (a ++ b).cps.toList = a.cps.toList ++ b.cps.toList := by
    show (a.cps ++ b.cps).toList = _
    rw [Array.toList_append]
  rw [e] at hc
  rcases List.mem_append.mp hc with h | h
  · exact okS_iff.mp ha c h
  · exact okS_iff.mp hb c h
theorem okS_one {c : Nat} (h : c < 1114112) : OkS ⟨#[c]⟩ := okS_iff.mpr fun x hx => by
  have : x = c := by simpa using hx
  omega
theorem okS_at {z : Str} (h : OkS z) {j : Nat} {c : Nat} (hj : z.cps.toList[j]? = some c) : OkS ⟨#[c]⟩ := okS_one (okS_iff.mp h c (List.mem_of_getElem? hj))
section
variable {X : Cx}
/-- which text it is, is not told, but that it is short -/
def rMulS : R2 := fun x y H Q => ∃ z n, x = .str z ∧ y = .int n ∧ 0 ≤ n ∧ n < 3 ∧ z.length ≤ 100 ∧ OkS z ∧ ∀ r : Str, r.length ≤ 200 → OkS r → Q (.str r) H
theorem op_mulS : OpR X (binaryOp .Mult) rMulS := by
  intro pins s σ H x y v u Q I rx ry h
  obtain ⟨z, n, rfl, rfl, h0, h1, hz, ok, q⟩ := h
  obtain ⟨t, rfl⟩ := rx
  obtain ⟨t', rfl⟩ := ry
  have hn : n = 0 ∨ n = 1 ∨ n = 2 := by omega
  rcases hn with rfl | rfl | rfl
  · exact PySem.P.mul_str_none (by decide) (by decide) ⟨.str _, H, I.tok _, ⟨_, rfl⟩, q _ (by decide) (by decide +kernel)⟩
  · refine PySem.P.mul_str (by decide) (fun _ e => by cases e) (fun _ e => by cases e) ?_
    show (Made.val (.str z t)).post _ s
    exact ⟨.str z, H, I, ⟨_, rfl⟩, q _ (by omega) ok⟩
  · refine PySem.P.mul_str (by decide) (fun _ _ => by omega) (fun _ _ => ?_) ?_
    · unfold Builtin.Str.tooLong
      have : z.length * (2 : Int).toNat ≤ 200 := by
        show z.length * 2 ≤ 200
        omega
      have big : 200 ≤ sizeLine := by decide
      exact decide_eq_false (by omega)
    · by_cases h0 : z.length = 0
      · have e : ((2 : Int) == 1 || z.length == 0) = true := by rw [h0]; rfl
        rw [if_neg (by decide), if_pos e]
        exact ⟨.str z, H, I, ⟨_, rfl⟩, q _ (by omega) ok⟩
      · have e : ((2 : Int) == 1 || z.length == 0) = false := by
          have : (z.length == 0) = false := by simpa using h0
          rw [this]
          rfl
        rw [if_neg (by decide), e, if_neg (by decide)]
        have l2 : (((#[] : Array Nat) ++ z.cps) ++ z.cps).size ≤ 200 := by
          have : z.cps.size = z.length := rfl
          rw [Array.size_append, Array.size_append]
          show 0 + z.cps.size + z.cps.size ≤ 200
          omega
        have l3 : OkS ⟨((#[] : Array Nat) ++ z.cps) ++ z.cps⟩ := okS_iff.mpr fun c hc => by
          have : c ∈ z.cps.toList := by
            have h : c ∈ (((#[] : Array Nat) ++ z.cps) ++ z.cps).toList := hc
            rw [Array.toList_append, Array.toList_append] at h
            rcases List.mem_append.mp h with h | h
            · rcases List.mem_append.mp h with h | h
              · exact absurd h (by simp)
              · exact h
            · exact h
          exact okS_iff.mp ok c this
        exact ⟨Nat.le_trans l2 (by decide), ⟨.str _, H, I.tok _, ⟨_, rfl⟩, q _ l2 l3⟩⟩
end
end Fp

/-! try with several clauses that name what they catch -/
namespace Fp
open PySem PySem.Spec PyProof.Rows L2
/-- a clause: its class, the slot of its name, its suite -/
abbrev Cl1 := Value × Nat × (Addr → Value → Option Addr → TS)
def endsBut (i : Nat) (D : Ends) : Ends :=
  { nx := fun σ H => D.nx (σ.set i none) H
    rt := D.rt
    bk := fun σ H => D.bk (σ.set i none) H
    ct := fun σ H => D.ct (σ.set i none) H }
def wCls (K : PySem.W.Frag) (Wout : WX) (D : Ends) : List Cl1 → WX
  | [] => Wout
  | (c, i, ts) :: r => fun cls d σ H => ∃ b, PySem.W.exmOne K cls c = some b ∧
      (b = true → ∀ a, H a = none → ts a cls d (endsBut i D) (σ.set i (some (.ref a))) H) ∧ (b = false → wCls K Wout D r cls d σ H)
inductive ClsOk (X : Cx) : List ExceptHandler → List Cl1 → Prop
  | nil : ClsOk X [] []
  | cons {x n : Str} {c : Value} {i : Nat} {ts : Addr → Value → Option Addr → TS} {b0 : Stmt} {su : List Stmt} {p1 p2 : Pos} {hds : List ExceptHandler} {l : List Cl1}
      (hi : X.N[i]? = some n) (hl : X.env.kindOf n = some .local) (hc : Names X x c)
      (hsu : ∀ (a : Addr) (oe : Obj) (cls : Value) (d : Option Addr) (pn : List (Addr × Obj)), Zc cls d oe → (∃ vs, oe.data = .fields vs) → PSs (X.suite a ((a, oe) :: pn)) (b0 :: su) (ts a cls d))
      (r : ClsOk X hds l) : ClsOk X (.ExceptHandler (some (.Name x p1)) (some n) (b0 :: su) p2 :: hds) ((c, i, ts) :: l)
section
variable {X : Cx} {body : List Stmt} {h0 : ExceptHandler} {hds : List ExceptHandler} {l : List Cl1} {pos : Pos} {tb : WX → TS} {Wout : WX}
theorem ps_try_cl (hs : X.stack = X.env :: X.outer) (hf : X.env.frame = some X.env.locals) (hN : X.N.Nodup) (tk : Takes X Wout)
    (hb : ∀ (W : WX) (pn : List (Addr × Obj)) (xe : Value → Shared → Prop), Takes (X.tr pn xe) W → PassesOwn (model X.prog X.w) X.A X.env xe → PSs (X.tr pn xe) body (tb W))
    (hh : ClsOk X (h0 :: hds) l) : PS X (.Try body (h0 :: hds) [] [] pos) (fun D σ H => tb (wCls X.K Wout D l) D σ H) := by
  refine ⟨fun pins s σ H D I h => ?_⟩
  have okX := I.ok
  have frX : X.A.frames = some (X.env :: X.outer) := by
    rw [okX.frames, hs]
  refine wpAny_Try_except ?_
  refine wpAny_mono ((hb (wCls X.K Wout D l) (X.pn ++ pins) (fun e s1 =>
      wpAny (model X.prog X.w) X.A (noteFrame e X.env) (fun _ s2 =>
        wpAny (model X.prog X.w) X.A (setFlight e none) (fun _ s3 =>
          wpAny (model X.prog X.w) X.A (handleBy e X.env (h0 :: hds)) (SP X pins D) X.xe s3) X.xe s2) X.xe s1)
      (fun u sx inAir => ?_) PassesOwn.looking).run [] s σ H D (I.toTry _) h) (fun f s1 hsp => ?_) (fun e s1 he => he)
  · obtain ⟨a, B, sJ, pinsA, σA, HA, cls, d, rfl, JA, nbA, upA, skyA, naA, osA, agA, wA⟩ := inAir
    have J : Inv X pins σA HA sJ := JA.ofTry okX
    have sky2 : Sky B (X.env :: X.outer) a (Zc cls d) X.env.locals sx.heap := by
      rw [← hs]
      exact skyA
    show wpAny (model X.prog X.w) X.A (noteFrame (.ref a) X.env) _ _ _
    refine Sky.land Zc.steady frX hf sky2 fun hp fl up => ?_
    have JL : Inv X pins σA HA { sx with heap := hp } := J.landed nbA fl.1 (upA.trans up) osA agA
    obtain ⟨oe, fv, hoe, hzc, hdt⟩ := fl.there
    have noFrame : ∀ {hq : Heap} {o : Obj} {vq : Array Value}, hq.FunFrames B (X.env :: X.outer) → hq.get? a = some o → o.data = .fields vq → a ∉ frs (X.env :: X.outer) := fun {hq o vq} ff e dd hm => by
      obtain ⟨_, o2, e2, hnf⟩ := ff.mem hm
      rw [e] at e2
      cases e2
      exact hnf _ dd
    have nfr := noFrame fl.2.2.1 hoe hdt
    have nLoc : a ≠ X.env.locals := fun z => nfr (List.mem_filterMap.mpr ⟨X.env, List.mem_cons_self, by rw [hf, z]⟩)
    have nFs : a ∉ X.fs := fun hm => by
      obtain ⟨e, he, q⟩ := List.mem_filterMap.mp hm
      exact nfr (List.mem_filterMap.mpr ⟨e, List.mem_cons_of_mem _ he, q⟩)
    have SL := JL.suite hoe hdt naA nLoc nFs
    have go : ∀ {hs2 : List ExceptHandler} {l2 : List Cl1}, ClsOk X hs2 l2 → wCls X.K Wout D l2 cls d σA HA →
        wpAny (model X.prog X.w) X.A (handleBy (.ref a) X.env hs2) (SP X pins D) X.xe { sx with heap := hp } := by
      intro hs2 l2 hk
      induction hk with
      | nil =>
        intro w
        refine wpAny_handleBy_nil ?_
        obtain ⟨k1, k2, k3, oe2, vs2, T, oT, ts2, he2, hz2, hd2, hv1, hr2⟩ := id fl
        unfold PySem.passOn
        refine wpAny_bind (wpAny_field he2 hd2 hv1 ?_)
        rw [if_neg (show ¬ ((Value.ref T == Value.none) = true) by simp)]
        have fin : wpAny (model X.prog X.w) X.A (setFlight (.ref a) X.env.frame) (fun _ s4 =>
            wpAny (model X.prog X.w) X.A (throw (.ref a) : Sem Flow) (SP X pins D) X.xe s4) X.xe { sx with heap := hp } := by
          rw [hf]
          refine HandSPX.setFlight_upZ fl fun h4 hh4 up4 => wpAny_throw (tk _ _ ?_)
          refine ⟨a, B, sJ, pins, σA, HA, cls, d, rfl, J, nbA, (upA.trans up).trans up4, .inr (.inr ?_), naA, osA, agA, w⟩
          rw [hs]
          exact hh4
        first
          | exact wpAny_bind (wpAny_pure (wpAny_bind fin))
          | exact wpAny_bind fin
      | @cons x n c i ts b0 su p1 p2 hds2 l2 hi hl hc hsu r ih =>
        intro w
        obtain ⟨b, hb1, hyes, hno⟩ := w
        have hloc : Loc X.env.scope n := .inl hl
        refine wpAny_handleBy_cons (codeAny_handlers_test ?_) (by intro q; cases q)
        have LT : PySem.W.Looks (model X.prog X.w) hp (typeOf (.ref a)) cls := fun A2 Q2 E2 s2 k q =>
          wpAny_typeOf_ref (k _ _ hoe) (by rw [hzc.1]; exact q)
        have LM := PySem.W.exm_one (M := model X.prog X.w) JL.kIn LT hb1
        have test : ∀ {Q2 E2 : Value → Shared → Prop}, Q2 c { sx with heap := hp } →
            wpAny (model X.prog X.w) (X.A.mark (some (.ref a))) (eval (.Name x p1) X.env) Q2 E2 { sx with heap := hp } := fun {Q2 E2} q => by
          obtain ⟨g1, g2, g3 | ⟨g3, g4, g5⟩⟩ := hc
          · exact ld_glob (X := X.suite a ((a, oe) :: (X.pn ++ pins))) SL g1 g3 q g2
          · exact ld_blt (X := X.suite a ((a, oe) :: (X.pn ++ pins))) SL g1 g3 g4 q g5 g2
        refine test (LM.here ?_)
        cases b with
        | true =>
          refine codeAny_handlers_suite_as ?_
          refine HandSPX.lands_againZ fl fun h4 fl4 up4 => ?_
          have J4 : Inv X pins σA HA { sx with heap := h4 } := J.landed nbA fl4.1 ((upA.trans up).trans up4) osA agA
          obtain ⟨oe4, fv4, hoe4, hz4, hd4⟩ := fl4.there
          have S4 := J4.suite hoe4 hd4 naA nLoc nFs
          refine store_ok (X := X.suite a ((a, oe4) :: (X.pn ++ pins))) (v := .ref a) S4 hN hi hloc rfl (fun s5 S5 => ?_) (.inr hl)
          refine wpAny_mono ((hsu a oe4 cls d (X.pn ++ pins) hz4 ⟨_, hd4⟩).run [] s5 _ HA _ S5 (hyes rfl a naA)) (fun f s6 hsp => ?_) (fun _ _ z => False.elim z)
          have close : ∀ {σ6 : L2.St} {H6 : Hp} {Q6 : Shared → Prop}, Inv (X.suite a ((a, oe4) :: (X.pn ++ pins))) [] σ6 H6 s6 →
              (∀ s7, Inv X pins (σ6.set i none) H6 s7 → Q6 s7) →
              wpAny (model X.prog X.w) X.A (do bindName X.env n .none; unbindBehindTheSuite X.env n p2) (fun _ s7 => Q6 s7) X.xe s6 :=
            fun {σ6 H6 Q6} S6 hq => gone_ok (S6.unsuite okX) hN hi hl hq
          cases f with
          | next =>
            obtain ⟨σ6, H6, S6, q6⟩ := hsp
            exact close S6 fun s7 J7 => ⟨_, _, J7, q6⟩
          | brk =>
            obtain ⟨σ6, H6, S6, q6⟩ := hsp
            exact close S6 fun s7 J7 => ⟨_, _, J7, q6⟩
          | cont =>
            obtain ⟨σ6, H6, S6, q6⟩ := hsp
            exact close S6 fun s7 J7 => ⟨_, _, J7, q6⟩
          | ret u =>
            obtain ⟨v6, σ6, H6, S6, r6, q6⟩ := hsp
            exact close S6 fun s7 J7 => ⟨_, _, _, J7, r6, q6⟩
        | false =>
          show wpAny _ X.A (handleBy (.ref a) X.env hds2) _ _ _
          exact ih (hno rfl)
    exact go hh wA
  · cases f with
    | next =>
      obtain ⟨σ2, H2, J2, q⟩ := hsp
      exact wpAny_execs_nil ⟨σ2, H2, J2.ofTry okX, q⟩
    | brk =>
      obtain ⟨σ2, H2, J2, q⟩ := hsp
      exact ⟨σ2, H2, J2.ofTry okX, q⟩
    | cont =>
      obtain ⟨σ2, H2, J2, q⟩ := hsp
      exact ⟨σ2, H2, J2.ofTry okX, q⟩
    | ret u =>
      obtain ⟨v, σ2, H2, J2, r, q⟩ := hsp
      exact ⟨v, σ2, H2, J2.ofTry okX, r, q⟩
end
end Fp
namespace Fp
open PySem PySem.Spec PySem.Calls PyProof.Rows PySem.W
section
variable {prog : Program} {w : World} {A : Around} {E : Value → Shared → Prop} {s : Shared} {K : Frag} {x D : Addr} {ox : Obj} {od : Option Obj}
/-- __class__ of an instance of an own exception class, whatever its dict -/
theorem exc_class {Q : Option Value → Shared → Prop} (C : L2.ExcC K D) (X : K.In s.heap) (I : InstAt s.heap x ox D od) (h : Q (some (.ref D)) { s with toks := s.toks + 1 }) :
    wpAny (model prog w) A (getAttr? (.ref x) "__class__") Q E s := by
  have hcls : (clsIn K D).isSome = true := by
    obtain ⟨cd, hc, _⟩ := any_some C.hd
    rw [hc]
    rfl
  have hf : findObj K D od "__class__" = some (.bind (.builtin "getset_descriptor.__get__") (.builtin "object.__class__")) := by
    cases od with
    | none => exact findObj_dataN hcls C.ha C.hn C.ht
    | some o => exact findObj_data hcls C.ha C.hn C.ht
  obtain ⟨hp, g, d, t, os⟩ := s
  have T0 := I.type (M := model prog w)
  have T1 := looks_findIn (M := model prog w) X C.hg
  have T2 := looks_findIn (M := model prog w) X C.hk
  have T3 := looks_find (M := model prog w) X I hf
  have isB : Looks (model prog w) hp (isInstance (.ref x) (.type "BaseException")) true :=
    T0.andThen (looks_subIn X C.hs)
  have z0 : (false && onTheHeap (Value.builtin "BaseException.__getattribute__")) = false := by rfl
  have z1 : (onTheHeap (Value.ref D) && Value.builtin "BaseException.__getattribute__" ==
      Value.builtin "object.__getattribute__") = false := by
    have : (Value.builtin "BaseException.__getattribute__" ==
      Value.builtin "object.__getattribute__") = false := by decide +kernel
    rw [this]
    rfl
  unfold getAttr? getAttrBy? getAttrBy
  refine wpAny_bind (wpAny_mkText (wpAny_bind (wpAny_attempt (wpAny_holding (wpAny_bind
    (T0.at (wpAny_bind (T1.at ?_))))))))
  show wpAny _ _ (if (onTheHeap (Value.ref D) && Value.builtin "BaseException.__getattribute__" ==
    Value.builtin "object.__getattribute__") = true then _ else _) _ _ _
  rw [z1, if_neg (by decide)]
  unfold getAttrByItsOwn hookBefore
  refine wpAny_bind ?_
  rw [if_pos (show onTheHeap (Value.ref D) = true by rfl)]
  refine T2.at ?_
  refine wpAny_bind (wpAny_attempt (wpAny_holding ?_))
  unfold callGetattribute
  rw [z0, if_neg (by decide)]
  unfold boundAndCalled
  rw [PySem.F.excAttr_ValueError.ga.bind (Value.ref x)]
  refine wpAny_bind (wpAny_pure ?_)
  show wpAny _ _ (call (.builtin "BaseException.__getattribute__")
    [.ref x, .str "__class__" t]) _ _ _
  refine wpAny_call (codeAny_call_builtin PySem.F.excAttr_ValueError.ga.plain
    PySem.F.entry_bexc_ga ?_)
  refine @check_slot (model prog w) _ _ ⟨hp, g, d, t + 1, os⟩ "BaseException.__getattribute__" "BaseException"
    "__getattribute__" (.ref x) [.str "__class__" t] [] _ (by decide +kernel) (by decide +kernel) isB
    (PySem.F.args_bexc_ga (.ref x) (.str "__class__" t)) ?_
  unfold Builtin.«object.__getattribute__»
  refine wpAny_bind (wpAny_of_eq (a := ((Value.ref x : Value), [Value.str "__class__" t]))
    (by first | rfl | (simp only [slotArgs]; rfl)) ?_)
  refine wpAny_bind (wpAny_pure (wpAny_bind (T0.at (wpAny_bind (T3.at ?_)))))
  show wpAny _ _ (holding [Value.builtin "object.__class__"] (call (.builtin "getset_descriptor.__get__")
    [.builtin "object.__class__", .ref x, .ref D]) >>= ret) _ _ _
  refine wpAny_bind (wpAny_holding (wpAny_call (class_get (s := ⟨hp, g, d, t + 1, os⟩)
    (ox := ox) (od := od) X I C.hm ?_)))
  refine wpAny_pure ?_
  show wpAny _ _ (handedOut (.ref D)) _ _ _
  rw [handedOut_of (v := Value.ref D) (by rfl)]
  first
    | exact wpAny_pure (wpAny_pure h)
    | exact wpAny_pure h
    | exact wpAny_pure (wpAny_bind (wpAny_pure (wpAny_pure h)))
/-- isinstance may be asked of it -/
theorem kit_exc (C : L2.ExcC K D) : KitX K (.ref x) (.ref D) (fun h => ∃ od, InstAt h x ox D od) where
  ty := fun _ _ _ ⟨_, I⟩ => I.type
  it := fun _ _ X _ => by
    obtain ⟨cdD, hcD, _⟩ := any_some C.hd
    unfold clsIn at hcD
    split at hcD
    · rename_i c1 d1 cd1 sl1 ho
      intro A2 Q2 E2 s2 k q
      unfold isType loadHead
      exact wpAny_bind (wpAny_loadPart (k _ _ (X _ _ ho))
        (wpAny_pure q))
    · cases hcD
  ne := fun h tp dd its n sl X htp => by
    obtain ⟨cdD, hcD, _⟩ := any_some C.hd
    refine Bool.eq_false_iff.mpr fun q => ?_
    obtain rfl : D = tp := Value.ref.inj (beq_iff_eq.mp q)
    unfold clsIn at hcD
    split at hcD
    · rename_i c1 d1 cd1 sl1 ho
      have z := (X _ _ ho).symm.trans htp
      cases z
    · cases hcD
  ca := fun X ⟨od, I⟩ k => exc_class (od := od) C X I k
end
end Fp
namespace Fp
open PySem PySem.Spec PyProof.Rows L2
/-- isinstance(e, c), e the exception that the suite holds, d its dict -/
def rIsX (K : PySem.W.Frag) (a : Addr) (cls : Value) (d : Option Addr) : List V → Hp → VK → Prop := fun xs H Q => ∃ (c : V) (cv : Value) (b : Bool) (D : Addr), xs = [.ref a, c] ∧ cls = .ref D ∧ (∀ u, RelV c u → u = cv) ∧ PySem.W.kitOne K (.ref D) cv = some b ∧ ExcC K D ∧ (∀ dd, d = some dd → ∃ fs, H dd = some (.xd fs)) ∧ Q (.bl b) H
theorem call_isX {X : Cx} {K : PySem.W.Frag} {a : Addr} {d : Option Addr} {oe : Obj} {cls : Value} {pn : List (Addr × Obj)} (hz : Zc cls d oe) (hf : ∃ vs, oe.data = .fields vs) (hK : X.K = K := by rfl) :
    CallR (X.suite a ((a, oe) :: pn)) (.builtin "isinstance") (rIsX K a cls d) := by
  subst hK
  intro pins s σ H xs us Q I r h
  obtain ⟨c, cv, b, D, rfl, rfl, hcv, e, C, hd, q⟩ := h
  cases r with
  | cons rx rr =>
    cases rr with
    | cons rt rr =>
      cases rr
      cases rx
      have ec := hcv _ rt
      subst ec
      obtain ⟨hget, _⟩ := I.pin (a, oe) (List.mem_append_left _ List.mem_cons_self)
      obtain ⟨vs, hv⟩ := hf
      have J : ∃ od, PySem.W.InstAt s.heap a oe D od := by
        obtain ⟨h1, h2⟩ := hz
        cases d with
        | none =>
          refine ⟨none, hget, h1, by unfold PySem.W.notCls; rw [hv] <;> rfl, ?_⟩
          rw [h2]
          trivial
        | some dd =>
          obtain ⟨fs, hdd⟩ := hd dd rfl
          obtain ⟨mA, hns, _⟩ : ObjOk X.prog X.w H s.heap dd (.xd fs) := I.hok dd _ hdd
          obtain ⟨od, ho, _⟩ := lookIn_ns hns
          refine ⟨some od, hget, h1, by unfold PySem.W.notCls; rw [hv] <;> rfl, ?_⟩
          rw [h2]
          exact ho
      exact PySem.W.kia_one (kit_exc C) I.kIn J e (fun z => nomatch z) fun tk => ⟨.bl b, H, I.kept (t' := tk) fun _ _ z => z, rfl, q⟩
end Fp

/-! own exceptions made as values; super().__init__() in their __init__ -/
namespace Fp
open PySem PySem.Spec PySem.Calls PyProof.Rows PySem.W
/-- the body super().__init__() -/
def supBody (p1 p2 p3 p4 p5 : Pos) : List Stmt := [.Expr (.Call (.Attribute (.Call (.Name "super" p1) [] [] p2) "__init__" p3) [] [] p4) p5]
/-- what the written part says of such a class, at C, and of its __init__ -/
structure SupC (K : Frag) (prog : Program) (C fI : Addr) : Prop where
  fn : ∃ (oc : Value) (od : Option Addr) (params : Arguments) (scope : Scope) (dV kV doc pm ct cl ccl : Value) (an cld cdd : Option Addr) (osl csl ccs : Array (Option Value)) (cc cda : Addr) (q : Str) (p1 p2 p3 p4 p5 : Pos) (vs : Array Value) (file : Str) (tf : Tok) (ar : Arg),
    K.lookup fI = some ⟨oc, od, .func (ksFn "__init__" q params (supBody p1 p2 p3 p4 p5) scope dV kV doc pm an (.ref cda) ct cc), osl⟩ ∧
    codeIn K (.ref cda) q = true ∧ K.lookup cc = some ⟨cl, cld, .cell (some (.ref C)), csl⟩ ∧
    K.lookup cda = some ⟨ccl, cdd, .fields vs, ccs⟩ ∧ vs[2]? = some (.str file tf) ∧ ((prog.main.file : Str) == file) = true ∧
    scope.kind = .function ∧ scope.isCoroutine = false ∧ scope.isGenerator = false ∧ (∀ x ∈ scope.names, x.2 ≠ .cell) ∧
    scope.names.lookup ("super" : Str) = some .globalImplicit ∧ scope.names.lookup ("__class__" : Str) = some .free ∧ scope.names.lookup ("self" : Str) = some .local ∧
    (params.posonlyargs ++ params.args).head? = some ar ∧ ar.arg = ("self" : Str) ∧
    (∀ L : Addr, ∃ pl : Sem Bool, eval (.Call (.Attribute (.Call (.Name "super" p1) [] [] p2) "__init__" p3) [] [] p4) (callEnv (ksFn "__init__" q params (supBody p1 p2 p3 p4 p5) scope dV kV doc pm an (.ref cda) ct cc) L fI) = (do
      let ov ← attributeBase (.Call (.Name "super" p1) [] [] p2) "__init__" (callEnv (ksFn "__init__" q params (supBody p1 p2 p3 p4 p5) scope dV kV doc pm an (.ref cda) ct cc) L fI) (eval (.Call (.Name "super" p1) [] [] p2) (callEnv (ksFn "__init__" q params (supBody p1 p2 p3 p4 p5) scope dV kV doc pm an (.ref cda) ct cc) L fI))
      standAt p3.atName
      let (f, first) ← holding [ov] (getMethod ov "__init__" pl)
      callWith p4 f first (backTo p4 (starEach [] (callEnv (ksFn "__init__" q params (supBody p1 p2 p3 p4 p5) scope dV kV doc pm an (.ref cda) ct cc) L fI))) [])) ∧
    (∀ L : Addr, interactive (callEnv (ksFn "__init__" q params (supBody p1 p2 p3 p4 p5) scope dV kV doc pm an (.ref cda) ct cc) L fI) = false) ∧
    (∀ L : Addr, swapsWith (.Call (.Attribute (.Call (.Name "super" p1) [] [] p2) "__init__" p3) [] [] p4) none p5.line (callEnv (ksFn "__init__" q params (supBody p1 p2 p3 p4 p5) scope dV kV doc pm an (.ref cda) ct cc) L fI) = pure false) ∧
    (∀ u : Value, bindArgs (ksFn "__init__" q params (supBody p1 p2 p3 p4 p5) scope dV kV doc pm an (.ref cda) ct cc) ⟨[u], []⟩ = pure [(("self" : Str), u)])
  top : (prog.main.scope.names.lookup ("super" : Str)).isSome = false
  opq : nsIn K cStatics "thirdparty.any" = some none
  up : ks_superIn K C C "__init__" = some (some (.builtin "ValueError.__init__"))
  ve : subIn K (.ref C) (.type "ValueError") = some true
  me : mroIn K C (.ref C) = some true
section
variable {prog : Program} {w : World} {A : Around} {K : Frag} {mg : Str → Option Value} {base : Heap} {C fI e t0 : Addr} {R : Result → Shared → Prop} {h : Heap} {g : Array GenState} {d : Drawn} {t : Nat} {os : OsState}
theorem run_sup (S : SupC K prog C fI) (T : L2.OexC K C) (M : L2.Mod K mg base) (hs : mg "super" = none) (kb : ∀ b o, base.get? b = some o → h.get? b = some o) (hr : A.depth < recursionLimit)
    (he : h.get? e = some (HandSPX.excO C t0))
    (hq : ∀ h' t1 t', (∀ b o, b ≠ e → h.get? b = some o → h'.get? b = some o) → h'.get? e = some (HandSPX.excO C t1) → R (.ok (.ret .none)) ⟨h', g, d, t', os⟩) :
    codeAny (model prog w) A (.call (.ref fI) ⟨[.ref e], []⟩) R ⟨h, g, d, t, os⟩ := by
  obtain ⟨oc, od, params, scope, dV, kV, doc, pm, ct, cl, ccl, an, cld, cdd, osl, csl, ccs, cc, cda, q, p1, p2, p3, p4, p5, vs, file, tf, ar, hf, hcd, hcell, hcode, hvs, hfile, hk, hco, hgen, hnc, hks, hkc, hka, hp, har, hev, hit, hsw, hbind⟩ := S.fn
  obtain ⟨nm, qn, N, bs, bm, sn, sub, ab, col, dd, k0, k1, k2, k3, k5, hC, hbm⟩ := T.cls
  have hcl : clsIn K C = some { name := nm, bases := bs, mro := .ref C :: bm, ns := N, qualname := qn, hasDict := true, slotNames := sn, subclasses := sub, abstract := ab, collection := col, hasDel := false } := by
    unfold clsIn
    rw [hC] <;> rfl
  have Xh : K.In h := M.kin.keeps kb
  refine ks_codeAny_call_defAt (body := supBody p1 p2 p3 p4 p5) (binds := [(("self" : Str), .ref e)]) hr (Xh _ _ hf) rfl (M.nolimit.keeps kb) (codeRec_of Xh hcd) rfl (BindsTo.of_eq (hbind _)) hnc (fun x hx => ?_) (fun h1 hns hk1 => ?_) hco hgen hk
  · rw [List.mem_singleton.mp hx]
    exact hka
  · have X1 : K.In h1 := Xh.keeps hk1
    have he1 := hk1 _ _ he
    have glob1 : h1.Ns mainGlobals mg := M.glob.keeps fun b o z => hk1 _ _ (kb _ _ z)
    obtain ⟨mb, hmb, hbb⟩ := M.blt
    have blt1 : h1.Ns builtinsNs mb := hmb.keeps fun b o z => hk1 _ _ (kb _ _ z)
    obtain ⟨pl, hev⟩ := hev h.objs.size
    refine ks_wpAt_execs_cons (ks_wpAt_Expr_any (ks_wpAt_MethodCall (pl := pl) ?_ hev) (hit _) (hsw _))
    refine ks_wpAt_super_base (ar := ar) hks hkc (by decide) rfl (X1 _ _ hf) rfl hp rfl (X1 _ _ hcode) rfl hvs hfile S.top ?_
    refine ks_loadName_global hk hks (loadGlobal_builtin glob1 hs blt1 ((hbb _ (by decide)).trans (by decide +kernel)) ⟨rfl, ?_⟩)
    refine wpAny_loadName_free hk hkc rfl ⟨_, X1 _ _ hcell, rfl⟩ ?_
    rw [har]
    refine wpAny_loadName_local (v := .ref e) hk hka hns (by rfl) ?_
    refine ks_wpAny_isType_cls (X1 _ _ hC) rfl ⟨rfl, ?_⟩
    have Ie : InstAt h1 e (HandSPX.excO C t0) C none := ⟨he1, rfl, rfl, trivial⟩
    refine ks_wpAny_call_super (X1 _ _ hC) rfl he1 rfl (fun c z => nomatch z) (looks_mroIn X1 S.me) (fun h2 e2 k2 => ?_)
    have X2 : K.In h2 := X1.keeps k2
    have he2 := k2 _ _ he1
    have I2 : InstAt h2 e (HandSPX.excO C t0) C none := ⟨he2, rfl, rfl, trivial⟩
    have hI2 : Looks (model prog w) h2 (isInstance (.ref e) (.type "ValueError")) true := I2.type.andThen (looks_subIn X2 S.ve)
    have hup : alongIn K "__init__" (((Value.ref C :: bm).dropWhile (· != .ref C)).drop 1) = some (some (.builtin "ValueError.__init__")) := by
      have := S.up
      unfold ks_superIn at this
      rw [hcl] at this
      exact this
    refine kxs_getMethod kxs_ValueError e2 (looks_opaque X2 S.opq) (l₀ := .ref C :: bm) (fun A2 Q2 E2 s2 k q => wpAny_bind ((looks_clsIn X2 hcl) A2 _ E2 s2 k (wpAny_pure q))) rfl X2 hup hI2 (ks_ne X2 I2 hcl) (by decide) ?_
    have kP : ∀ b o, h2.get? b = some o → (h2.push (kxs_mw "ValueError.__init__" e)).get? b = some o := fun b o z => Heap.get?_push_of_some _ z
    have hu : (h2.push (kxs_mw "ValueError.__init__" e)).get? h2.objs.size = some (kxs_mw "ValueError.__init__" e) := Heap.get?_push_size _ rfl
    refine kxs_callWith (i := "ValueError.__init__") (x := e) rfl (evalArgs_empty ⟨hu, ?_⟩)
    have X3 : K.In (h2.push (kxs_mw "ValueError.__init__" e)) := X2.keeps kP
    have he3 := kP _ _ he2
    have FB := PySem.F.excBase_ValueError
    refine wpAny_call (codeAny_of_tree ?_)
    show wpAny _ _ (callAny (.ref h2.objs.size) ⟨[], []⟩) _ _ _
    simp only [callAny]
    refine wpAny_bind (wpAny_load hu ?_)
    have hmw : (Value.type "method-wrapper" == Value.type "method" || Value.type "method-wrapper" ==
      Value.type "builtin_function_or_method" || Value.type "method-wrapper" == Value.type "method-wrapper") = true := by decide
    simp only [kxs_mw, hmw, if_true]
    refine KFB.if_so (by decide) ?_
    refine wpAny_bind (check_bound_init FB.toExcCallFacts (X3 _ _ hC) he3 rfl ?_)
    refine wpAny_bind (wpAny_pure (wpAny_pure ?_))
    refine ⟨plainId_quiet FB.init.plain _, codeAny_builtin FB.initEntry ?_⟩
    refine exc_init_tree (cls := .ref C) (t0 := t0) (dv := none) (c2 := .none) (c3 := .none) (b4 := .bool false) he3 (Nat.zero_le _) (fun h4 k4 e4 t4 => ?_)
    refine wpAt_of_wpAny (wpAny_execs_nil ?_)
    exact hq _ _ _ (fun b o hb z => k4 b o hb (kP _ _ (k2 _ _ (hk1 _ _ z)))) e4
end
end Fp
namespace Fp
open PySem PySem.Spec PyProof.Rows L2
/-- an exception of the class C stands at a, with these attributes (the last one stored first) -/
def ExV (H : Hp) (a C : Addr) (fs : List (Str × V)) : Prop := (fs = [] ∧ H a = some (exo a C none)) ∨ ∃ dx, H a = some (exo a C (some dx)) ∧ H dx = some (exd dx fs)
theorem ExV.same {H H' : Hp} {a C : Addr} {fs : List (Str × V)} (h : ExV H a C fs) (e : Same H H') : ExV H' a C fs := by
  rcases h with ⟨h1, h2⟩ | ⟨dx, h1, h2⟩
  · exact .inl ⟨h1, e _ _ h2⟩
  · exact .inr ⟨dx, e _ _ h1, e _ _ h2⟩
/-- C(e, ..): its __init__ keeps sp -/
def tMkE (C : Addr) (sp : Sp) (ta : TA) : TE := fun σ H Q => ta σ H fun vs H1 => vs.length ≤ 1000 ∧ ∀ a, H1 a = none → sp (.ref a :: vs) (upd H1 a (exo a C none)) (fun v H2 => v = .non ∧ Q (.ref a) H2) C8.E0
/-- a class whose own __init__ is a def of the text -/
def Xn (P : Program) (w : World) (K : PySem.W.Frag) (mg : Str → Option Value) (base : Heap) (k : Nat) (C : Addr) (ps : List Str) (sp : Sp) : Prop :=
  ∃ fI fd, OexC K C ∧ PySem.W.findIn K (.ref C) "__init__" = some (some (.ref fI)) ∧ PySem.W.typeIn K (.ref fI) = some (.type "function") ∧ Binds K fd ps [] ∧ FnOk P w K mg base C8.CX0 k fI fd ps sp
/-- a class whose __init__ says super().__init__() -/
def Xs (K : PySem.W.Frag) (P : Program) (C : Addr) : Prop :=
  ∃ fI, OexC K C ∧ PySem.W.findIn K (.ref C) "__init__" = some (some (.ref fI)) ∧ PySem.W.typeIn K (.ref fI) = some (.type "function") ∧ SupC K P C fI
section
variable {X : Cx} {C : Addr} {k : Nat} {ps : List Str} {sp : Sp} {x : Str} {e : Expr} {es : List Expr} {p pos : Pos} {ta : TA}
theorem pkE (M : Xn X.prog X.w X.K X.mg X.base k C ps sp) (hr : Room (k + 1) X.A) (hg : Gl X x) (hm : X.mg x = some (.ref C)) (ha : PA X (e :: es) ta)
    (hdb : (x == ("__debug__" : Str)) = false := by decide) (he : starEach (e :: es) X.env = (false, eval e X.env) :: starEach es X.env := by rfl) (hpl : (backTo pos (starEach es X.env)).any (·.1) = false := by rfl) :
    PE X (.Call (.Name x p) (e :: es) [] pos) (tMkE C sp ta) := by
  refine ⟨fun pins s σ H Q I hyp => ?_⟩
  obtain ⟨fI, fd, T, iC, tI, hb, F1⟩ := M
  obtain ⟨nm, q, N, bs, bm, sn, sub, ab, col, dd, k0, k1, k2, k3, k5, hC, hbm⟩ := T.cls
  refine wpAny_Call_Name_kw (ld_glob I hg hm ?_ hdb)
  refine PySem.W.callWith_K (h₀ := X.base) I.ok.mod.kin T.kC (thn (ha.run pos pins s σ H _ I hyp) fun us s1 ⟨vs, H1, I1, r1, hz, q1⟩ => ⟨I1.kIn, ?_⟩) he hpl
  show wpAny _ _ (call (.ref C) us) _ _ _
  obtain ⟨hp, g, dr, tk, os⟩ := s1
  have sz : hp.objs.size ≤ hp.objs.size + 1 := Nat.le_succ _
  have hq := q1 (hp.objs.size + 1) (I1.hok.fresh sz)
  have kk : ∀ b o, hp.get? b = some o → ((hp.push (PySem.W.kdv_tup us)).push (PySem.HandSPX.excO C hp.objs.size)).get? b = some o := fun b o z =>
    Heap.get?_push_of_some _ (Heap.get?_push_of_some _ z)
  have hget : ((hp.push (PySem.W.kdv_tup us)).push (PySem.HandSPX.excO C hp.objs.size)).get? (hp.objs.size + 1) =
      some (PySem.HandSPX.excO C hp.objs.size) := by heap_get
  have I2 : Inv X pins σ (upd H1 (hp.objs.size + 1) (exo (hp.objs.size + 1) C none)) ⟨(hp.push (PySem.W.kdv_tup us)).push (PySem.HandSPX.excO C hp.objs.size), g, dr, tk, os⟩ :=
    Inv.laid (s := ⟨hp, g, dr, tk, os⟩) (t' := tk) (a := hp.objs.size + 1) (o := exo (hp.objs.size + 1) C none) I1 kk sz (exo_ok hget)
  have r2 : Vals (V.ref (hp.objs.size + 1) :: vs) (Value.ref (hp.objs.size + 1) :: us) := .cons rfl r1
  have lenU : (Value.ref (hp.objs.size + 1) :: us).length = ps.length := by
    have z := vals_len r2
    rw [F1.len _ _ _ _ hq] at z
    exact z.symm
  have us_le : us.length ≤ sizeLine := by
    rw [← vals_len r1, sizeLine_eq]
    omega
  have bnd := hb ⟨(hp.push (PySem.W.kdv_tup us)).push (PySem.HandSPX.excO C hp.objs.size), g, dr, tk, os⟩ (Value.ref (hp.objs.size + 1) :: us) I2.kIn (by rw [List.append_nil]; exact lenU)
  rw [List.append_nil] at bnd
  refine wpAny_call (PySem.HandSPX.call_own F.excBase_ValueError (fun Y => PySem.HandSPX.refsVE_contains Y bm hbm) (I1.kIn _ _ hC) (PySem.W.looks_findIn I1.kIn iC)
    (fun self => PySem.W.bind_fn I1.kIn self tI) us_le (codeAny_mono (F1.run _ X.stack _ _ ⟨Value.ref (hp.objs.size + 1) :: us, []⟩ _ _ _ _ (hr.make C us []) (I2.env0.make C us []) bnd r2 hq) fun r sx hx => ?_))
  cases r with
  | error er => exact (show False from hx).elim
  | ok fl =>
    cases fl with
    | ret u =>
      obtain ⟨v, H2, J, rv, ev, q2⟩ := I2.after hx
      subst ev
      exact ⟨rv, .ref (hp.objs.size + 1), H2, J, rfl, q2⟩
    | next => exact False.elim hx
    | brk => exact False.elim hx
    | cont => exact False.elim hx
/-- C(), super().__init__() in its __init__ -/
def tMkS (C : Addr) : TE := fun _ H Q => ∀ a, H a = none → Q (.ref a) (upd H a (exo a C none))
theorem pkS (M : Xs X.K X.prog C) (hr : Room 2 X.A) (hg : Gl X x) (hm : X.mg x = some (.ref C)) (hs : X.mg "super" = none) (hdb : (x == ("__debug__" : Str)) = false := by decide) :
    PE X (.Call (.Name x p) [] [] pos) (tMkS C) := by
  refine ⟨fun pins s σ H Q I hyp => ?_⟩
  obtain ⟨fI, T, iC, tI, S⟩ := M
  obtain ⟨nm, q, N, bs, bm, sn, sub, ab, col, dd, k0, k1, k2, k3, k5, hC, hbm⟩ := T.cls
  refine wpAny_Call_Name_kw (ld_glob I hg hm ?_ hdb)
  refine PySem.W.callWith_K0 I.kIn T.kC ?_
  show wpAny _ _ (call (.ref C) []) _ _ _
  have bsI := I.bk
  have kI := I.kIn
  have modI := I.mod
  obtain ⟨hp, g, dr, tk, os⟩ := s
  have hn : H (hp.objs.size + 1) = none := I.hok.fresh (Nat.le_succ _)
  have kk : ∀ b o, hp.get? b = some o → ((hp.push (PySem.W.kdv_tup [])).push (PySem.HandSPX.excO C hp.objs.size)).get? b = some o := fun b o z =>
    Heap.get?_push_of_some _ (Heap.get?_push_of_some _ z)
  have hget : ((hp.push (PySem.W.kdv_tup [])).push (PySem.HandSPX.excO C hp.objs.size)).get? (hp.objs.size + 1) =
      some (PySem.HandSPX.excO C hp.objs.size) := by heap_get
  refine wpAny_call (PySem.HandSPX.call_own F.excBase_ValueError (fun Y => PySem.HandSPX.refsVE_contains Y bm hbm) (kI _ _ hC) (PySem.W.looks_findIn kI iC)
    (fun self => PySem.W.bind_fn kI self tI) (Nat.zero_le _) ?_)
  refine run_sup S T modI hs (fun b o z => kk _ _ (bsI _ _ z)) (hr.make C [] []).depth hget (fun h' t1 t' k' e' => ?_)
  have J : Inv X pins σ (upd H (hp.objs.size + 1) (exo (hp.objs.size + 1) C none)) ⟨h', g, dr, t', os⟩ :=
    Inv.laid (s := ⟨hp, g, dr, tk, os⟩) (t' := t') (a := hp.objs.size + 1) (o := exo (hp.objs.size + 1) C none) I
      (fun b u z => k' b u (Nat.ne_of_lt (Nat.lt_succ_of_lt (Heap.lt_size z))) (kk _ _ z)) (Nat.le_succ _) (exo_ok e')
  exact ⟨rfl, .ref (hp.objs.size + 1), _, J, rfl, hyp _ hn⟩
/-- e.f, e an exception that stands in the heap -/
def tFldE (K : PySem.W.Frag) (f : Str) (te : TE) : TE := fun σ H Q => te σ H fun x H1 => ∃ a C fs v, x = .ref a ∧ ExV H1 a C fs ∧ XfC K C ∧ PySem.W.findIn K (.ref C) f = some none ∧ fs.lookup f = some v ∧ Q v H1
theorem pe_fldE {K : PySem.W.Frag} {te : TE} {f : Str} (he : PE X e te) (hb : attributeBase e f X.env (eval e X.env) = eval e X.env := by rfl) (hK : X.K = K := by rfl) : PE X (.Attribute e f pos) (tFldE K f te) := by
  subst hK
  refine ⟨fun pins s σ H Q I h => ?_⟩
  refine attr_of hb (thn (he.run pins s σ H _ I h) fun u s1 hh => ?_)
  obtain ⟨y, H1, I1, rx, a, C, fs, v, rfl, hE, T, hno, l, q⟩ := hh
  obtain rfl : u = Value.ref a := rx
  rcases hE with ⟨rfl, _⟩ | ⟨dx, h1, h2⟩
  · cases l
  · obtain ⟨t1, ho⟩ := exo_at I1.hok h1
    obtain ⟨mA, hns, hr⟩ := exd_at I1.hok h2
    obtain ⟨od, hod, hl⟩ := lookIn_ns hns
    obtain ⟨u, hu, ru⟩ := RelO.some_of (v := v) (o := mA f) (by rw [← l]; exact hr f)
    have J : PySem.W.InstAt s1.heap a { cls := .ref C, dict := some dx, data := .fields #[.ref t1, .none, .none, .none, .bool false, .none] } C (some od) := ⟨ho, rfl, rfl, hod⟩
    exact HandSPX.exc_get I1.kIn J T.ga T.gg T.exC (PySem.W.findObj_own T.hdC hno rfl (by rw [hl, hu])) (handed_of ru) ⟨v, H1, I1.tok _, ru, q⟩
/-- isinstance(e, c) of such -/
def rIsV (K : PySem.W.Frag) : List V → Hp → VK → Prop := fun xs H Q => ∃ (a C : Addr) (fs : List (Str × V)) (c : V) (cv : Value) (b : Bool), xs = [.ref a, c] ∧ ExV H a C fs ∧ ExcC K C ∧ ClsV c cv ∧ PySem.W.kitOne K (.ref C) cv = some b ∧ Q (.bl b) H
theorem call_isV {K : PySem.W.Frag} (hK : X.K = K := by rfl) : CallR X (.builtin "isinstance") (rIsV K) := by
  subst hK
  intro pins s σ H xs us Q I r h
  obtain ⟨a, C, fs, c, cv, b, rfl, hE, T, hcv, ek, q⟩ := h
  obtain ⟨u1, u2, rfl, r1, r2⟩ := vals2 r
  obtain rfl : u1 = Value.ref a := r1
  have ec := hcv.eq r2
  subst ec
  have J : ∃ ox od, PySem.W.InstAt s.heap a ox C od := by
    rcases hE with ⟨_, h1⟩ | ⟨dx, h1, h2⟩
    · obtain ⟨t1, ho⟩ := exo_at I.hok h1
      exact ⟨_, none, ho, rfl, rfl, trivial⟩
    · obtain ⟨t1, ho⟩ := exo_at I.hok h1
      obtain ⟨mA, hns, _⟩ := exd_at I.hok h2
      obtain ⟨od, hod, _⟩ := lookIn_ns hns
      exact ⟨_, some od, ho, rfl, rfl, hod⟩
  obtain ⟨ox, od, J⟩ := J
  exact PySem.W.kia_one (kit_exc (ox := ox) T) I.kIn ⟨od, J⟩ ek (fun z => nomatch z) fun tk => ⟨.bl b, H, I.kept (t' := tk) fun _ _ z => z, rfl, q⟩
theorem ps_ostK {K : PySem.W.Frag} {o : Expr} {f : Str} {p' : Pos} {to te : TE} (ho : PE X o to) (he : PE X e te) (hs : swapsWith e (some (.Attribute o f p')) pos.line X.env = pure false := by rfl) (hK : X.K = K := by rfl) :
    PS X (.Assign [.Attribute o f p'] e pos) (tOst K f to te) := by
  subst hK
  exact ps_ost ho he hs
end
/-- isinstance among own classes: F and ValueError's mro behind the class itself -/
structure ClF (K : PySem.W.Frag) (F C : Addr) : Prop where
  cls : ∃ nm q N bs sn sub ab col dd k0 k1 k2 k3 k5, K.lookup C = some (excClassObj nm q C N bs (.ref F :: HandSPX.veTail) true sn sub ab col dd k0 k1 k2 k3 k5 "ValueError.__new__")
section
variable {K : PySem.W.Frag} {F C D : Addr}
theorem ClF.cd (h : ClF K F C) : ∃ cd : ClassData, PySem.W.clsIn K C = some cd ∧ cd.mro = .ref C :: .ref F :: HandSPX.veTail ∧ cd.hasDict = true := by
  obtain ⟨nm, q, N, bs, sn, sub, ab, col, dd, k0, k1, k2, k3, k5, hC⟩ := h.cls
  refine ⟨{ name := nm, bases := bs, mro := .ref C :: .ref F :: HandSPX.veTail, ns := N, qualname := q, hasDict := true, slotNames := sn, subclasses := sub, abstract := ab, collection := col, hasDel := false }, ?_, rfl, rfl⟩
  unfold PySem.W.clsIn
  rw [hC] <;> rfl
theorem ClF.mro (h : ClF K F C) (b : Value) : PySem.W.mroIn K C b = some ((Value.ref C :: Value.ref F :: HandSPX.veTail).contains b) := by
  obtain ⟨cd, h1, h2, _⟩ := h.cd
  unfold PySem.W.mroIn
  rw [h1, Option.bind_some, h2]
  rfl
theorem ClF.ty (h : ClF K F C) : PySem.W.typeIn K (.ref C) = some (.type "type") := by
  obtain ⟨nm, q, N, bs, sn, sub, ab, col, dd, k0, k1, k2, k3, k5, hC⟩ := h.cls
  unfold PySem.W.typeIn
  simp only [hC]
  rfl
theorem ClF.is (h : ClF K F C) (hD : (PySem.W.clsIn K D).isSome = true) (tD : PySem.W.typeIn K (.ref D) = some (.type "type")) (hF : D ≠ F) : PySem.W.kitOne K (.ref C) (.ref D) = some (decide (C = D)) := by
  unfold PySem.W.kitOne
  by_cases e : C = D
  · subst e
    rw [if_pos (by simp), decide_eq_true rfl]
  · rw [if_neg (by simp [e]), decide_eq_false e]
    show (if ((PySem.W.clsIn K D).isSome && PySem.W.typeIn K (.ref D) == some (.type "type")) = true then PySem.W.subIn K (.ref C) (.ref D) else none) = _
    rw [hD, tD]
    show (if (true && (some (Value.type "type") == some (Value.type "type"))) = true then PySem.W.mroIn K C (.ref D) else none) = _
    rw [if_pos (by decide), h.mro]
    have : (Value.ref C :: Value.ref F :: HandSPX.veTail).contains (.ref D) = false := by
      simp [HandSPX.veTail, Ne.symm e, hF]
    rw [this]
end
end Fp

/-! the errors of the package as a family -/
namespace Fp
open PySem PySem.Spec PyProof.Rows L2
structure EC (K : PySem.W.Frag) (F C : Addr) : Prop where
  cl : ClF K F C
  sa : PySem.W.findIn K (.ref C) "__setattr__" = some (some (.builtin "object.__setattr__"))
  ga : PySem.W.findIn K (.ref C) "__getattribute__" = some (some (.builtin "BaseException.__getattribute__"))
  gg : PySem.W.findIn K (.ref C) "__getattr__" = some none
  ca : PySem.W.findIn K (.ref C) "__class__" = some (some (.builtin "object.__class__"))
  kC : PySem.W.keepIn K (.ref C) = true
structure EFam (K : PySem.W.Frag) (F : Addr) (Cs : List Addr) : Prop where
  nd : Cs.Nodup
  nF : F ∉ Cs
  f1 : (PySem.W.clsIn K F).isSome = true
  f2 : PySem.W.typeIn K (.ref F) = some (.type "type")
  sp : PySem.W.specialIn K (.builtin "object.__class__") "__get__" = some (some (.builtin "getset_descriptor.__get__"))
  tk : PySem.W.takesIn K (.builtin "object.__class__") = some true
  ec : ∀ C ∈ Cs, EC K F C
section
variable {K : PySem.W.Frag} {F C D : Addr} {Cs : List Addr}
theorem EC.sub (h : EC K F C) (b : Value) (hb : HandSPX.veTail.contains b = true) : PySem.W.subIn K (.ref C) b = some true := by
  show PySem.W.mroIn K C b = _
  rw [h.cl.mro, List.contains_cons, List.contains_cons, hb, Bool.or_true, Bool.or_true]
theorem EC.hd (h : EC K F C) : PySem.W.hasDictIn K C = true := by
  obtain ⟨cd, h1, _, h3⟩ := h.cl.cd
  unfold PySem.W.hasDictIn
  rw [h1]
  exact h3
theorem EC.oex (h : EC K F C) : OexC K C := by
  obtain ⟨nm, q, N, bs, sn, sub, ab, col, dd, k0, k1, k2, k3, k5, hC⟩ := h.cl.cls
  exact ⟨⟨nm, q, N, bs, _, sn, sub, ab, col, dd, k0, k1, k2, k3, k5, hC, by show (HandSPX.veTail == HandSPX.veTail) = true; decide +kernel⟩, h.sa, h.sub _ (by decide +kernel), h.cl.ty, h.kC⟩
theorem EC.xf (h : EC K F C) : XfC K C := ⟨h.ga, h.gg, h.sub _ (by decide +kernel), h.hd⟩
theorem EFam.exc (f : EFam K F Cs) (h : C ∈ Cs) : ExcC K C := by
  have e := f.ec C h
  exact ⟨e.ga, e.gg, e.sub _ (by decide +kernel), e.hd, e.ca, f.sp, f.tk, e.sub _ (by decide +kernel)⟩
theorem EFam.is (f : EFam K F Cs) (h : C ∈ Cs) (hD : D ∈ Cs) : PySem.W.kitOne K (.ref C) (.ref D) = some (decide (C = D)) := by
  obtain ⟨cd, h1, _⟩ := (f.ec D hD).cl.cd
  exact (f.ec C h).cl.is (by rw [h1]; rfl) (f.ec D hD).cl.ty fun z => f.nF (z ▸ hD)
theorem EFam.isF (f : EFam K F Cs) (h : C ∈ Cs) : PySem.W.kitOne K (.ref C) (.ref F) = some true := by
  have ne : C ≠ F := fun z => f.nF (z ▸ h)
  unfold PySem.W.kitOne
  rw [if_neg (by simp [ne])]
  show (if ((PySem.W.clsIn K F).isSome && PySem.W.typeIn K (.ref F) == some (.type "type")) = true then PySem.W.mroIn K C (.ref F) else none) = _
  rw [f.f1, f.f2, if_pos (by decide), (f.ec C h).cl.mro]
  have : (Value.ref C :: Value.ref F :: HandSPX.veTail).contains (.ref F) = true := by simp
  rw [this]
theorem EFam.isVE (f : EFam K F Cs) (h : C ∈ Cs) : PySem.W.kitOne K (.ref C) (.type "ValueError") = some true := by
  unfold PySem.W.kitOne
  rw [if_neg (by simp)]
  show (if PySem.W.kitMeta "ValueError" = true then PySem.W.subIn K (.ref C) (.type "ValueError") else none) = _
  rw [if_pos (by decide +kernel), (f.ec C h).sub _ (by decide +kernel)]
end
/-! ### promises -/
/-- self.f = v -/
def spI (C : Addr) (f : Str) : Sp := fun vs H Q _ => ∃ a v, vs = [.ref a, v] ∧ H a = some (exo a C none) ∧ ∀ H', (∀ b o, H b = some o → b ≠ a → H' b = some o) → ExV H' a C [(f, v)] → Q .non H'
def spIo (C : Addr) (f : Str) : Sp := fun vs H Q _ => ∃ a b xs, vs = [.ref a, .ref b] ∧ H a = some (exo a C none) ∧ H b = some (.lst xs) ∧ ∀ H' l, (∀ b o, H b = some o → b ≠ a → H' b = some o) → H' l = some (.lst xs) → ExV H' a C [(f, .ref l)] → Q .non H'
def spI2 (C : Addr) (f g : Str) : Sp := fun vs H Q _ => ∃ a v w, vs = [.ref a, v, w] ∧ H a = some (exo a C none) ∧ ∀ H', (∀ b o, H b = some o → b ≠ a → H' b = some o) → ExV H' a C [(g, w), (f, v)] → Q .non H'
def spOwnL : Sp := fun vs H Q _ => ∃ b xs, vs = [.ref b] ∧ H b = some (.lst xs) ∧ ∀ l, H l = none → Q (.ref l) (upd H l (.lst xs))
def spPickS : Sp := fun vs H Q _ => ∃ p c z t, vs = [.ref p, .str z] ∧ PenOk H p c t ∧ t ≤ 900000000 ∧ 0 < z.length ∧ z.length ≤ 900 ∧ OkS z ∧ ∀ (c' : Nat) (H' : Hp), OkS ⟨#[c']⟩ → PenOk H' p c (t + 1) → But p H H' → Q (.str ⟨#[c']⟩) H'
def barS : List Str := ["tags", "sums", "state", "on", "go", "end", "none", "x"]
def spBar : Sp := fun vs H Q _ => vs = [] ∧ ∀ l H', H l = none → Same H H' → H' l = some (.lst (barS.map V.str)) → Q (.ref l) H'
def spNames : Sp := fun vs H Q _ => ∃ (p c : Addr) (m t : Nat), vs = [.ref p, .int (m : Int)] ∧ PenOk H p c t ∧ t ≤ 800000000 ∧ m ≤ 1000 ∧ ∀ (a : Addr) (H' : Hp) (zs : List Str), (0 < m → zs ≠ []) → zs.length ≤ 100 → (∀ z ∈ zs, z.length ≤ 300) → (∀ z ∈ zs, OkS z) → Dt H' (.ref a) (.list (zs.map PyData.str)) → PenOk H' p c (t + 200) → But p H H' → Q (.ref a) H'
def spClsN (Cs : List Addr) : Sp := fun vs H Q _ => ∃ a C fs, vs = [.ref a] ∧ ExV H a C fs ∧ C ∈ Cs ∧ Q (.int 1) H
def spIsOne (Cs : List Addr) : Sp := fun vs H Q _ => ∃ a C fs, vs = [.ref a, .bl true] ∧ ExV H a C fs ∧ C ∈ Cs ∧ Q (.bl true) H
/-- a list of pairs: an error, v -/
def spErrs (Cs : List Addr) : Sp := fun vs H Q _ => ∃ v, vs = [v] ∧ ∀ (l : Addr) (H' : Hp) (ps : List Addr), Same H H' → H' l = some (.lst (ps.map V.ref)) → ps.length ≤ 10 → (∀ p ∈ ps, ∃ a C fs, H' p = some (.tup [.ref a, v]) ∧ ExV H' a C fs ∧ C ∈ Cs) → Q (.ref l) H'
def spPenB : Sp := fun vs H Q _ => ∃ p c t, vs = [.ref p] ∧ PenOk H p c t ∧ t ≤ 700000000 ∧ ∀ H', PenOk H' p c (t + 300) → But p H H' → Q (.bl true) H'
/-! ### enumerate in a comprehension, the items flat -/
section
variable {K : PySem.W.Frag} {g : TG} {tt : TT} {te : TE} {vs : List Nat} {σ : L2.St} {H : Hp} {Q : VK} {xs : List V} {a : Addr}
theorem lcg_enum (hS : SqL K H a xs) (hz : xs.length < 100000) (R : List V → Prop) (R0 : R []) 
    (hs : ∀ i x H' T, xs[i]? = some x → Same H H' → H' T = none → ∀ (acc : List V), R acc → ∀ (R1 : V → Hp → Prop) (R2 : Hp → Prop), (∀ y H'', Same (upd H' T (.tup [.int (i : Nat), x])) H'' → R (acc ++ [y]) → R1 y H'') →
      g (.ref T) (wipe σ vs) (upd H' T (.tup [.int (i : Nat), x])) fun σ2 H2 => wipe σ2 vs = wipe σ vs ∧ tt σ2 H2 fun b H3 => if b = true then te σ2 H3 R1 else R2 H3)
    (hd : ∀ D acc H', H D = none → Same H H' → H' D = some (.lst acc) → acc.length = xs.length → R acc → Q (.ref D) H') : LcG (Ite K a) g tt te vs σ H Q := by
  intro D hD
  refine ⟨fun i m H' => m = xs.length - i ∧ i ≤ xs.length ∧ ∃ acc, H' D = some (.lst acc) ∧ acc.length = i ∧ R acc ∧ Same H H', ⟨xs.length, by simp, Nat.zero_le _, [], upd_same, rfl, R0, same_new hD⟩, ?_⟩
  rintro i m H' ⟨rfl, hi, acc, h1, h2, h3, h4⟩
  by_cases hlt : i < xs.length
  · refine .inr ⟨⟨xs, xs[i], h4.seq hS, List.getElem?_eq_getElem hlt⟩, fun H'' => ∃ acc, H'' D = some (.lst acc) ∧ acc.length = i + 1 ∧ R acc ∧ Same H H'', fun H'' ⟨acc', p'⟩ => ⟨xs.length - (i + 1), by omega, rfl, hlt, acc', p'⟩, fun x H'' y => ?_⟩
    obtain ⟨T, x', rfl, hT, rfl, hx⟩ := y
    have e2 : Same H' (upd H' T (.tup [.int (i : Nat), x'])) := same_new hT
    have big : 100000 ≤ sizeLine := by decide
    refine hs i x' H' T (hx xs (h4.seq hS)) h4 hT acc h3 _ _ (fun y H'' e3 r => ?_)
    exact ⟨acc, e3 _ _ (e2 _ _ h1), by omega, _, upd_same, by rw [List.length_append, h2]; rfl, r, Same.mut ((h4.trans e2).trans e3) hD⟩
  · have e : i = xs.length := by omega
    subst e
    exact .inl ⟨⟨xs, h4.seq hS, Nat.le_refl _⟩, hd D acc H' hD h4 h1 h2 h3⟩
end
section
variable {X : Cx} {K : PySem.W.Frag}
theorem pi_enumK {e : Expr} {ta : TA} {p pos tpos : Pos} {elts : List Expr} {kk : Nat} (hg : Gl X "enumerate") (hm : X.mg "enumerate" = none) (ha : PA X [e] ta) (hs : starEach [e] X.env = [(false, eval e X.env)] := by rfl) (hK : X.K = K := by rfl) :
    PI X (.Tuple elts kk tpos) (.Call (.Name "enumerate" p) [e] [] pos) (iEnum K ta) := by
  subst hK
  exact pi_enum hg hm ha hs
theorem lc_iE {ta : TA} {g : TG} {tt : TT} {te : TE} {vs : List Nat} {σ : L2.St} {H : Hp} {Q : VK} : tLc (iEnum K ta) g tt te vs σ H Q = ta σ H (fun zs H1 => ∃ a xs, zs = [.ref a] ∧ SqL K H1 a xs ∧ LcG (Ite K a) g tt te vs σ H1 Q) := rfl
end
theorem seqi2 {t u v : TS} {D : Ends} {σ : L2.St} {H : Hp} (h : ∀ k : L2.St → Hp → Prop, k = v D → t { D with nx := u { D with nx := k } } σ H) : tSeq t (tSeq u v) D σ H := h _ rfl
/-! ### the letters of the names -/
def sgS : Str := "abcdefghijklmnopqrstuvw"
theorem sg_at : ∀ i, i < 23 → sgS.cps.toList[i]? = some (97 + i) := by decide +kernel
theorem sg_len : sgS.length = 23 := by decide +kernel
def oneS (n : Nat) : Str := ⟨#[n]⟩
theorem sg_ok : OkS sgS := by decide +kernel
theorem one_ok {n : Nat} (h : n < 1000) : OkS (oneS n) := okS_one (by omega)
theorem one_len (n : Nat) : (oneS n).length = 1 := rfl
theorem one_free : ∀ i, i < 23 → oneS (97 + i) ∉ barS := by decide +kernel
theorem bar_last : barS.all (fun b => decide (b = "x") || !decide (b.cps.toList.getLast? = some 120)) = true := by decide +kernel
theorem bar_noz : barS.all (fun b => !b.cps.toList.contains 122) = true := by decide +kernel
theorem app_x {w : Str} (h : 0 < w.length) : w ++ "x" ∉ barS := fun hm => by
  have h1 := List.all_eq_true.mp bar_last _ hm
  have hl : (w ++ "x").cps.toList.getLast? = some 120 := by
    have e : (w ++ "x").cps.toList = w.cps.toList ++ [120] := by
      show (w.cps ++ ("x" : Str).cps).toList = _
      rw [Array.toList_append]
      rfl
    rw [e, List.getLast?_append]
    rfl
  rw [hl] at h1
  have h2 : w ++ "x" = ("x" : Str) := by simpa using h1
  have h3 := congrArg Str.length h2
  rw [Str.length_append] at h3
  have e1 : ("x" : Str).length = 1 := rfl
  omega
theorem zz_free {w v : Str} : w ++ ("zz" ++ v) ∉ barS := fun hm => by
  have h1 := List.all_eq_true.mp bar_noz _ hm
  have e : (w ++ ("zz" ++ v)).cps.toList = w.cps.toList ++ ([122, 122] ++ v.cps.toList) := by
    show (w.cps ++ (("zz" : Str).cps ++ v.cps)).toList = _
    rw [Array.toList_append, Array.toList_append]
    rfl
  rw [e] at h1
  simp at h1
end Fp

/-! repr of data: calls that know that no repr runs around them -/
namespace Fp
open PySem PySem.Spec PyProof.Rows L2
/-- room, and no repr around -/
structure RoomG (k : Nat) (A : Around) : Prop where
  r : Room k A
  g : A.guards = some []
theorem RoomG.mono {j k : Nat} {A : Around} (h : RoomG k A) (l : j ≤ k) : RoomG j A := ⟨h.r.mono l, h.g⟩
theorem RoomG.deep {k : Nat} {A : Around} (h : RoomG (k + 1) A) (env : Env) : RoomG k (A.deeper env) := ⟨h.r.deeper env, h.g⟩
/-- FnOk, asked only where no repr runs -/
structure FnG (P : Program) (w : World) (K : PySem.W.Frag) (mg : Str → Option Value) (base : Heap) (CX : CXT) (k : Nat) (f : Addr) (fd : FuncData) (ps : List Str) (sp : Sp) : Prop where
  same : ∀ vs H Q E, sp vs H Q E → vs.length = ps.length
  go : ∀ (A : Around) (outer : List Env) (s : Shared) (H : Hp) (args : Args) (us : List Value) (vs : List V) (Q : VK) (E : XK),
    RoomG k A → Env0 P w K mg base A outer s H → BindsTo s fd args (ps.zip us) → Vals vs us → sp vs H Q E → codeAny (model P w) A (.call (.ref f) args) (CR CX outer P w H s Q E) s
section
variable {P : Program} {w : World} {K : PySem.W.Frag} {mg : Str → Option Value} {base : Heap} {CX : CXT} {k : Nat} {f : Addr} {fd : FuncData} {ps : List Str} {sp : Sp}
theorem FnG.of (F : FnOk P w K mg base CX k f fd ps sp) : FnG P w K mg base CX k f fd ps sp := ⟨F.len, fun A o s H a us vs Q E hr => F.run A o s H a us vs Q E hr.r⟩
theorem FnG.mono {j : Nat} (F : FnG P w K mg base CX j f fd ps sp) (h : j ≤ k) : FnG P w K mg base CX k f fd ps sp := ⟨F.same, fun A o s H a us vs Q E hr => F.go A o s H a us vs Q E (hr.mono h)⟩
/-- a def by its body, which may know that no repr runs around -/
theorem funG {x qual : Str} {st : Stmt} {N : List Str} (F : Fun K x qual st f fd) (S : FnScope N ps (defScope st)) (len : ∀ vs H Q E, sp vs H Q E → vs.length = ps.length)
    (hb : ∀ (cdv : Value) (A : Around) (outer : List Env) (s : Shared) (H : Hp) (vs : List V) (Q : VK) (E : XK), RoomG k (A.deeper (envOfC qual (defScope st) s.heap.objs.size f cdv)) → sp vs H Q E →
      ∃ t, PSs (cxOf CX P w K mg base N qual (defScope st) f cdv A outer s H E) (defBody st) t ∧ t { nx := fun _ H' => Q .non H', rt := Q } (start N vs) H) :
    FnG P w K mg base CX (k + 1) f fd ps sp := by
  obtain ⟨oc, od, kV, doc, pm, an, cdv, ct, osl, rfl, lk, hcd⟩ := F.ex
  refine ⟨len, fun A outer s H args us vs Q E hr e0 bd rv hsp => ?_⟩
  have kin : K.In s.heap := e0.mod.kin.keeps fun b o z => (e0.bs b o z).1
  have nol : s.heap.NoLimit := e0.mod.nolimit.keeps fun b o z => (e0.bs b o z).1
  have kinds : ∀ y ∈ ps.zip us, (defScope st).names.lookup y.1 = some .local ∨ ((defScope st).names.lookup y.1 = some .cell ∧ ((cellsFrom (s.heap.objs.size + 1) (defScope st).names []).lookup y.1).isSome = true) := by
    rintro ⟨n, v⟩ hy
    cases S.par n (List.of_mem_zip hy).1 with
    | inl z => exact .inl z
    | inr z => exact .inr ⟨z, PySem.W.cellsFrom_some _ _ _ (.inl z)⟩
  refine codeAny_call_function hr.r.depth (kin _ _ lk) rfl S.co S.gen rfl (PySem.W.codeRec_of kin hcd) (bd _ _ _ _ (wpAny_newFunctionEnv_cells S.kind kinds fun env he s1 x => ?_))
  cases he
  refine ⟨nol.keeps x.toInCall.keep, codeAny_func ?_⟩
  obtain ⟨t, pt, ht⟩ := hb cdv A outer s H vs Q E (hr.deep _) hsp
  refine wpAny_mono (pt.run [] s1 (start N vs) H _ (inv_start S hr.r.hd e0 (len _ _ _ _ hsp) rv x) ht) ?_ (fun e s' z => z)
  intro fl s' hs
  match fl, hs with
  | .ret u, ⟨v, σ', H', J, r2, q⟩ => exact ⟨v, H', J.os, J.bare, J.base, J.hok, r2, q⟩
  | .next, ⟨σ', H', J, q⟩ => exact ⟨V.non, H', J.os, J.bare, J.base, J.hok, (show RelV V.non Value.none from rfl), q⟩
  | .brk, ⟨_, _, _, q⟩ => exact False.elim q
  | .cont, ⟨_, _, _, q⟩ => exact False.elim q
end
/-- defs of the text, by name -/
def DnG (P : Program) (w : World) (K : PySem.W.Frag) (mg : Str → Option Value) (base : Heap) (k : Nat) (x : Str) (ps : List Str) (sp : Sp) : Prop :=
  ∃ f fd, mg x = some (.ref f) ∧ PySem.W.keepIn K (.ref f) = true ∧ Binds K fd ps [] ∧ FnG P w K mg base CX0 k f fd ps sp
section
variable {X : Cx} {k : Nat} {x : Str} {ps : List Str} {sp : Sp} {p pos : Pos} {e : Expr} {es : List Expr} {t : TA} {f : Addr} {fd : FuncData}
theorem run_fnG {pins : List (Addr × Obj)} {σ : L2.St} {H : Hp} {s : Shared} {Q : VK} {us : List Value} {vs : List V} (F : FnG X.prog X.w X.K X.mg X.base CX0 k f fd ps sp) (hr : RoomG k X.A) (hb : Binds X.K fd ps [])
    (I : Inv X pins σ H s) (r : Vals vs us) (h : sp vs H Q E0) : wpAny (model X.prog X.w) X.A (call (.ref f) us) (EP X pins σ Q) X.xe s := by
  have len2 : us.length = ps.length := by rw [← vals_len r]; exact F.same _ _ _ _ h
  have bd := hb s us I.kIn (by rw [List.append_nil]; exact len2)
  rw [List.append_nil] at bd
  refine wpAny_call (codeAny_mono (F.go X.A X.stack s H ⟨us, []⟩ us vs Q E0 hr I.env0 bd r h) ?_)
  intro res s' hq
  match res, hq with
  | .error _, hq => exact False.elim hq
  | .ok (.ret _), hq => exact I.after hq
theorem pdG (D : DnG X.prog X.w X.K X.mg X.base k x ps sp) (hr : RoomG k X.A) (hg : Gl X x) (ha : PA X (e :: es) t) (hdb : (x == ("__debug__" : Str)) = false := by decide)
    (he : starEach (e :: es) X.env = (false, eval e X.env) :: starEach es X.env := by rfl) (hpl : (backTo pos (starEach es X.env)).any (·.1) = false := by rfl) :
    PE X (.Call (.Name x p) (e :: es) [] pos) (tCall sp [] E0 t) := by
  obtain ⟨f, fd, h1, h2, h3, h4⟩ := D
  refine ⟨fun pins s σ H Q I h => wpAny_Call_Name_kw (ld_glob I hg h1 ?_ hdb)⟩
  refine PySem.W.callWith_K (h₀ := X.base) I.ok.mod.kin h2 (thn (ha.run pos pins s σ H _ I h) ?_) he hpl
  rintro us s1 ⟨vs, H1, I1, r, q⟩
  rw [List.append_nil] at q
  exact ⟨I1.kIn, run_fnG h4 hr h3 I1 r q⟩
/-- repr of data -/
def rReprD (K : PySem.W.Frag) : List V → Hp → VK → Prop := fun xs H Q => ∃ a d, xs = [.ref a] ∧ Dp K H (.ref a) d ∧ d.showable = true ∧ d.hasDict = false ∧ d.depth ≤ 64 ∧ d.shown.length ≤ sizeLine ∧ Q (.str d.shown) H
theorem call_reprD {K : PySem.W.Frag} (hr : RoomG k X.A) (hK : X.K = K := by rfl) : CallR X (.builtin "repr") (rReprD K) := by
  subst hK
  intro pins s σ H xs us Q I r h
  obtain ⟨a, d, rfl, hd, h1, h2, h3, h4, q⟩ := h
  obtain ⟨u, rfl, ru⟩ := vals1 r
  obtain rfl : u = Value.ref a := ru
  obtain ⟨as, rd⟩ := Dp.reads I d (.ref a) _ hd rfl
  have un := hr.r.un
  refine repr_of_reads' rd h1 (PyData.noDict_hsm h2) hr.g (by omega) (fun b o z => z) (fun h' u tk hk => ?_) h4
  exact ⟨.str d.shown, H, I.kept (t' := tk) hk, ⟨u, rfl⟩, q⟩
end
end Fp

/-! defs that may raise, class methods, lambdas with captured names, len and bool of own things -/
namespace Fp
open PySem PySem.Spec PyProof.Rows L2 ClX
/-- a def that may raise, by name -/
def De (P : Program) (w : World) (K : PySem.W.Frag) (mg : Str → Option Value) (base : Heap) (k : Nat) (x : Str) (ps : List Str) (sp : Sp) : Prop :=
  ∃ f fd, mg x = some (.ref f) ∧ PySem.W.keepIn K (.ref f) = true ∧ Binds K fd ps [] ∧ FnOk P w K mg base (L2.CX P w) k f fd ps sp
/-- a class whose __init__ may raise; dvs: what its defaults are -/
def Ke (P : Program) (w : World) (K : PySem.W.Frag) (mg : Str → Option Value) (base : Heap) (k : Nat) (C : Addr) (ps : List Str) (dvs : List V) (sp : Sp) : Prop :=
  ∃ g fd ds, Mk K C g ∧ Binds K fd ps [] ∧ Binds K fd ps ds ∧ Vals dvs ds ∧ FnOk P w K mg base (L2.CX P w) k g fd ps sp
/-- a class method of the class at C -/
def Ce (P : Program) (w : World) (K : PySem.W.Frag) (mg : Str → Option Value) (base : Heap) (k : Nat) (C : Addr) (m : Str) (sp : Sp) : Prop :=
  ∃ mc p g, CRead K C mc ∧ CMet K C mc m p g ∧ FnR P w K mg base (L2.CX P w) k g sp
section
variable {X : Cx} {k : Nat} {C : Addr} {x m : Str} {ps : List Str} {dvs : List V} {sp : Sp} {E : XK} {p pos apos : Pos} {e o : Expr} {es : List Expr} {t : TA} {ta : TE} {pl : Sem Bool}
theorem pde (D : De X.prog X.w X.K X.mg X.base k x ps sp) (hr : Room k X.A) (hg : Gl X x) (hx : Passes (L2.CX X.prog X.w) X E) (ha : PA X (e :: es) t) (hdb : (x == ("__debug__" : Str)) = false := by decide)
    (he : starEach (e :: es) X.env = (false, eval e X.env) :: starEach es X.env := by rfl) (hpl : (backTo pos (starEach es X.env)).any (·.1) = false := by rfl) :
    PE X (.Call (.Name x p) (e :: es) [] pos) (tCall sp [] E t) := by
  obtain ⟨f, fd, h1, h2, h3, h4⟩ := D
  exact pe_call h4 hr hg h1 h2 h3 .nil hx ha hdb he hpl
theorem pke (M : Ke X.prog X.w X.K X.mg X.base k C ps dvs sp) (hr : Room (k + 1) X.A) (hg : Gl X x) (hm : X.mg x = some (.ref C)) (hx : Passes (L2.CX X.prog X.w) X E) (ha : PA X (e :: es) t)
    (hdb : (x == ("__debug__" : Str)) = false := by decide) (he : starEach (e :: es) X.env = (false, eval e X.env) :: starEach es X.env := by rfl) (hpl : (backTo pos (starEach es X.env)).any (·.1) = false := by rfl) :
    PE X (.Call (.Name x p) (e :: es) [] pos) (tMake C sp [] E t) := by
  obtain ⟨g, fd, ds, h1, h2, _, _, h3⟩ := M
  exact pe_make h1 h3 hr hg hm h2 .nil hx ha hdb he hpl
theorem pke0 (M : Ke X.prog X.w X.K X.mg X.base k C ps dvs sp) (hr : Room (k + 1) X.A) (hg : Gl X x) (hm : X.mg x = some (.ref C)) (hx : Passes (L2.CX X.prog X.w) X E)
    (hdb : (x == ("__debug__" : Str)) = false := by decide) :
    PE X (.Call (.Name x p) [] [] pos) (tMake C sp dvs E tNil) := by
  obtain ⟨g, fd, ds, h1, _, h2, hd, h3⟩ := M
  exact pe_make0 h1 h3 hr hg hm h2 hd hx hdb
/-- cls(e, ..), cls a name of the def that holds the class at C -/
def tMakeL (C : Addr) (i : Nat) (sp : Sp) (dvs : List V) (E : XK) (t : TA) : TE := fun σ H Q => σ[i]? = some (some (.ref C)) ∧ tMake C sp dvs E t σ H Q
theorem pkl {i : Nat} (M : Ke X.prog X.w X.K X.mg X.base k C ps dvs sp) (hr : Room (k + 1) X.A) (hN : X.N[i]? = some x) (hv : Vis X.env.scope x) (hx : Passes (L2.CX X.prog X.w) X E) (ha : PA X (e :: es) t)
    (hdb : (x == ("__debug__" : Str)) = false := by decide) (hcd : (x == ("__classdict__" : Str)) = false := by decide) (he : starEach (e :: es) X.env = (false, eval e X.env) :: starEach es X.env := by rfl) (hpl : (backTo pos (starEach es X.env)).any (·.1) = false := by rfl) :
    PE X (.Call (.Name x p) (e :: es) [] pos) (tMakeL C i sp [] E t) := by
  obtain ⟨g, fd, ds, h1, h2, _, _, h3⟩ := M
  refine ⟨fun pins s σ H Q I h => ?_⟩
  obtain ⟨hs, ht⟩ := h
  refine wpAny_Call_Name_kw (thn ((pe_var (pos := p) hN hv hdb hcd).run pins s σ H (fun v H1 => v = .ref C ∧ H1 = H) I ⟨.ref C, hs, rfl, rfl⟩) fun u s1 ⟨v, H1, I1, r1, q1⟩ => ?_)
  obtain ⟨rfl, rfl⟩ := q1
  cases r1
  refine PySem.W.callWith_K (h₀ := X.base) I.ok.mod.kin h1.kp (thn (ha.run pos pins s1 σ _ _ I1 ht) fun us s2 ⟨vs, H2, I2, r, q⟩ => ⟨I2.kIn, ?_⟩) he hpl
  exact run_make h1 h3 hr h2 .nil hx I2 r q
theorem pce (M : Ce X.prog X.w X.K X.mg X.base k C m sp) (hr : Room k X.A) (hx : Passes (L2.CX X.prog X.w) X E) (he : PE X o ta) (ha : PA X (e :: es) t)
    (hst : starEach (e :: es) X.env = (false, eval e X.env) :: starEach es X.env := by rfl) (hpl : (backTo pos (starEach es X.env)).any (·.1) = false := by rfl)
    (ht : eval (.Call (.Attribute o m apos) (e :: es) [] pos) X.env = (do
      let ov ← eval o X.env
      standAt apos.atName
      let (f, first) ← holding [ov] (getMethod ov m pl)
      callWith pos f first (backTo pos (starEach (e :: es) X.env)) (backToKw pos (keywordEach [] X.env))) := by rfl) :
    PE X (.Call (.Attribute o m apos) (e :: es) [] pos) (tCMeth C sp E ta t) := by
  obtain ⟨mc, p, g, h1, h2, h3⟩ := M
  exact pe_cmeth he h1 h2 h3 hr hx ha hst hpl ht
theorem pce0 (M : Ce X.prog X.w X.K X.mg X.base k C m sp) (hr : Room k X.A) (hx : Passes (L2.CX X.prog X.w) X E) (he : PE X o ta)
    (ht : eval (.Call (.Attribute o m apos) [] [] pos) X.env = (do
      let ov ← eval o X.env
      standAt apos.atName
      let (f, first) ← holding [ov] (getMethod ov m pl)
      callWith pos f first (backTo pos (starEach [] X.env)) (backToKw pos (keywordEach [] X.env))) := by rfl) :
    PE X (.Call (.Attribute o m apos) [] [] pos) (tCMeth C sp E ta tNil) := by
  obtain ⟨mc, q, g, r, c, F⟩ := M
  refine ⟨fun pins s σ H Q I h => ?_⟩
  refine PySem.W.methodCall_KW (pl := pl) (thn (he.run pins s σ H _ I h) fun u s1 ⟨x, H1, I1, rx, ex, q⟩ => ?_) ht
  subst ex
  obtain rfl : u = Value.ref C := rx
  refine getmethcm_ok I1 r c fun s2 I2 => ?_
  exact PySem.W.callWith_M0 (K := X.K) ⟨pin_at I2, I2.kIn⟩ c.fi (run_cm F hr hx I2 .nil q)
/-! ### len and bool of own things -/
def rOwnLen (C : Addr) (sp : Sp) : List V → Hp → VK → Prop := fun xs H Q => ∃ a dx fs, xs = [.ref a] ∧ H a = some (.ins C dx fs) ∧ sp [.ref a] H (fun v H' => ∃ n : Nat, v = .int n ∧ n < 1000000 ∧ Q (.int n) H') E0
theorem call_ownLen (M : Mn X.prog X.w X.K X.mg X.base k C "__len__" ps sp) (hr : Room (k + 1) X.A) : CallR X (.builtin "len") (rOwnLen C sp) := by
  intro pins s σ H xs us Q I r h
  obtain ⟨a, dx, fs, rfl, ha, q⟩ := h
  obtain ⟨u, rfl, ru⟩ := vals1 r
  obtain rfl : u = Value.ref a := ru
  obtain ⟨g, fd, h1, h2, h3⟩ := M
  obtain ⟨od, J⟩ := inst_of I ha
  obtain ⟨m, hF⟩ := I.fr
  refine PySem.W.len_K hF I.ok.mod.kin J h1.at_ h1.fn ?_
  have F := h3.raw (dvs := []) h2 .nil
  refine wpAny_mono (wpAny_call (SlX.run_at (us := [.ref a]) (ws := [.ref a]) F hr.in1 I.env0.in1 (E := E0) pass0 I (.cons rfl .nil) q)) (fun w s' z => ?_) fun _ _ x => x
  obtain ⟨z', H', I', rz, n, ei, hn, qz⟩ := z
  subst ei
  obtain ⟨t, e⟩ := (show ∃ t, w = Value.int n t from rz)
  subst e
  exact ⟨⟨by omega, by omega⟩, .int n, H', I'.tok _, ⟨_, rfl⟩, qz⟩
theorem bool_in {prog : Program} {w : World} (x : Value) : MeetsIn prog w (Builtin.«bool.__new__» ⟨[.type "bool", x], []⟩) (fun A R s => wpAny (model prog w) A.in1 (truthy x) (fun b s' => R (.ok (.ret (.bool b))) s') (fun e s' => R (.error e) s') s) := by
  intro A R s hs
  have f1 := F.conv_sub_bool
  unfold Builtin.«bool.__new__»
  refine wpAny_bind (m := isType (.type "bool")) (wpAny_of_eq (a := true) rfl ?_)
  refine wpAny_bind (m := isSubtype (.type "bool") (.type "bool")) (wpAny_of_eq (a := true) f1 ?_)
  refine wpAny_bind (m := someArgs "bool" 0 1 { pos := [x] }) (wpAny_of_eq (a := [x]) rfl ?_)
  refine wpAny_bind (wpAny_mono hs (fun b s' q => ?_) fun _ _ z => z)
  exact wpAny_pure q
def rOwnBool (C : Addr) (sp : Sp) : List V → Hp → VK → Prop := fun xs H Q => ∃ a dx fs, xs = [.ref a] ∧ H a = some (.ins C dx fs) ∧ sp [.ref a] H (fun v H' => ∃ b : Bool, v = .bl b ∧ Q (.bl b) H') E0
theorem call_boolAny {x : Value} {prog : Program} {w : World} {A : Around} {Q E : Value → Shared → Prop} {s : Shared} (h : wpAny (model prog w) A.in1.in1 (truthy x) (fun b s' => Q (.bool b) s') E s) : wpAny (model prog w) A (call (.type "bool") [x]) Q E s :=
  callType_newIn F.called_bool F.newNe_bool (F.typeCall_bool_1 x) (F.newCall_bool_1 x) (fun obj => F.args_object_init_2 obj x) F.entry_bool_new (bool_in x) (wpAny_mono h (fun b s' q => ⟨rfl, q⟩) fun _ _ z => z)
theorem call_ownBool (M : Mn X.prog X.w X.K X.mg X.base k C "__bool__" ps sp) (hr : Room (k + 2) X.A) : CallR X (.type "bool") (rOwnBool C sp) := by
  intro pins s σ H xs us Q I r h
  obtain ⟨a, dx, fs, rfl, ha, q⟩ := h
  obtain ⟨u, rfl, ru⟩ := vals1 r
  obtain rfl : u = Value.ref a := ru
  obtain ⟨g, fd, h1, h2, h3⟩ := M
  obtain ⟨od, J⟩ := inst_of I ha
  obtain ⟨m, hF⟩ := I.fr
  have F := h3.raw (dvs := []) h2 .nil
  have hr2 : Room k X.A.in1.in1 := (show Room (k + 1) X.A.in1 from Room.in1 hr).in1
  refine call_boolAny (PySem.W.truthy_K hF I.ok.mod.kin J h1.at_ h1.fn ?_)
  refine wpAny_mono (wpAny_call (SlX.run_at (us := [.ref a]) (ws := [.ref a]) F hr2 I.env0.in1.in1 (E := E0) pass0 I (.cons rfl .nil) q)) (fun w s' z => ?_) fun _ _ x => x
  obtain ⟨z', H', I', rz, b, ei, qz⟩ := z
  subst ei
  obtain rfl : w = Value.bool b := rz
  exact ⟨.bl b, H', I', rfl, qz⟩
/-- bool(a tuple) -/
def rBoolT (K : PySem.W.Frag) : List V → Hp → VK → Prop := fun xs H Q => ∃ a ys, xs = [.ref a] ∧ SqT K H a ys ∧ Q (.bl (!ys.isEmpty)) H
theorem call_boolT {K : PySem.W.Frag} (hK : X.K = K := by rfl) : CallR X (.type "bool") (rBoolT K) := by
  subst hK
  intro pins s σ H xs us Q I r h
  obtain ⟨a, ys, rfl, hq, q⟩ := h
  obtain ⟨u, rfl, ru⟩ := vals1 r
  obtain rfl : u = Value.ref a := ru
  obtain ⟨its, r', pl, hz⟩ := I.tuple hq
  have hlen := r'.length
  have hl := line63
  refine call_boolAny (truthy_tuple pl (by simp only [List.size_toArray]; omega) ?_)
  exact ⟨.bl (!ys.isEmpty), H, I.tok _, by rw [isEmpty_of r']; rfl, q⟩
/-- list(d), d a dict that the top has written -/
def rListKK (K : PySem.W.Frag) : List V → Hp → VK → Prop := fun xs H Q => ∃ d zs, xs = [.ref d] ∧ KKeys K d zs ∧ zs.length ≤ 1000 ∧ ∀ l, H l = none → Q (.ref l) (upd H l (.lst (zs.map V.str)))
theorem call_listKK {K : PySem.W.Frag} (hc : X.calm = true) (hK : X.K = K := by rfl) : CallR X (.type "list") (rListKK K) := by
  subst hK
  intro pins s σ H xs us Q I r h
  obtain ⟨d, zs, rfl, ⟨⟨es, n, hl, hk⟩, low⟩, hz, q⟩ := h
  obtain ⟨u, rfl, ru⟩ := vals1 r
  obtain rfl : u = Value.ref d := ru
  obtain ⟨hs, hat⟩ := KKeys.at (K := X.K) (d := d) (n := n) hk
  have raw : s.heap.DictRaw d es n := ⟨_, I.kIn d _ hl, ⟨rfl, rfl, rfl⟩, rfl⟩
  refine PySem.W.kdl_call (PySem.KdlSrc.rawDict low) (I.ok.hd hc) raw (by rw [sizeLine_eq]; omega) fun h' tk acc c kp e it => ?_
  obtain ⟨i1, i2⟩ := it
  have rv : Vals (zs.map V.str) acc.toList := by
    refine vals_of_at (by simp only [List.length_map, Array.length_toList]; omega) fun j v u hv hu => ?_
    obtain ⟨hj, e1⟩ := i2 j u (by rw [← Array.getElem?_toList]; exact hu)
    obtain ⟨z, t, hz2, hk2⟩ := hat j hj
    rw [List.getElem?_map, hz2] at hv
    cases hv
    exact ⟨t, by rw [e1, hk2]⟩
  have hzl : (zs.map V.str).length ≤ sizeLine := by rw [List.length_map]; exact Nat.le_of_lt (small1000 hz)
  exact ⟨.ref s.heap.objs.size, _, I.laid (t' := tk) kp (Nat.le_refl _) (show ObjOk X.prog X.w _ h' _ (.lst (zs.map V.str)) from ⟨hzl, acc.toList, c, rv, e⟩), rfl, q _ (I.hok.fresh (Nat.le_refl _))⟩
/-! ### x(lambda: ..), the lambda with captured names -/
/-- the def x calls the lambda that it gets; TT: what it makes of the lambda's reading -/
def LcOk (P : Program) (w : World) (K : PySem.W.Frag) (mg : Str → Option Value) (base : Heap) (x : Str) (TT : (XK → Hp → VK → Prop) → Hp → VK → Prop) : Prop :=
  ∃ (g : Addr) (oc : Value) (od : Option Addr) (osl : Array (Option Value)) (pg : Arguments) (bg : List Stmt) (sg : Scope) (dV kV doc pm cdv ct : Value) (an : Option Addr) (Ng : List Str) (a : Str),
    mg x = some (.ref g) ∧ PySem.W.keepIn K (.ref g) = true ∧ K.lookup g = some ⟨oc, od, .func (PySem.W.fnOf x x pg bg sg dV kV doc pm an cdv ct), osl⟩ ∧ PySem.W.codeIn K cdv x = true ∧ Binds K (PySem.W.fnOf x x pg bg sg dV kV doc pm an cdv ct) [a] [] ∧
    FnScope Ng [a] sg ∧ Ng[0]? = some a ∧ Vis sg a ∧ (a == ("__debug__" : Str)) = false ∧ (a == ("__classdict__" : Str)) = false ∧
    ∀ (X : Cx) (q : Str), X.prog = P → X.w = w → X.K = K → X.mg = mg → X.base = base → LamX.GivesTo X Ng x sg g cdv bg a q TT
theorem pe_lcall {T : List (Addr × Str)} {TT : (XK → Hp → VK → Prop) → Hp → VK → Prop} {params : Arguments} {body : Expr} {scope : Scope} {t : XK → TE} {lpos : Pos} (G : LcOk X.prog X.w X.K X.mg X.base x TT) (hg : Gl X x)
    (M : Mak X.base X.mg T X.env.code (X.env.qual ++ "<lambda>")) (hr : Room (k + 2) X.A) (L : LamX.lamSB X.env.scope scope = true) (hdef : defaultsOf params X.env = ([], []))
    (hbind : ∀ (q : Str) (cl : List (Str × Addr)) (pm cv ctv : Value), bindArgs (PySem.W.kla_fn "<lambda>" q params body scope cl pm cv ctv) ⟨[], []⟩ = pure [])
    (hbody : ∀ (A : Around) (outer : List Env) (s : Shared) (H : Hp) (E : XK) (f c' : Addr), Room k (A.deeper (LamX.lamEnv X scope s.heap.objs.size f c')) → PE (LamX.lamCx X A outer s H E scope f c') body (t E))
    (hdb : (x == ("__debug__" : Str)) = false := by decide) :
    PE X (.Call (.Name x p) [.Lambda params body scope lpos] [] pos) (LamX.tLam T TT t) := by
  obtain ⟨g, oc, od, osl, pg, bg, sg, dV, kV, doc, pm, cdv, ct, an, Ng, a, h1, h2, h3, h4, h5, h6, h7, h8, h9, h10, h11⟩ := G
  obtain ⟨c, P, m1, m2, m3, m4⟩ := M.ex
  exact LamX.pe_lamcall hg h1 h2 h3 h4 h5 h6 h7 h8 (h11 X _ rfl rfl rfl rfl rfl) m2 m1 m3 m4 hr (LamX.lamS_by L) hdef hbind hbody hdb h9 h10
end
/-! ### raise C(e): an own class with one attribute -/
def spIN (C : Addr) (f : Str) : Sp := fun vs H Q _ => ∃ a v, vs = [.ref a, v] ∧ H a = some (exo a C none) ∧
  ∀ H' dx, H dx = none → (∀ b o, H b = some o → b ≠ a → H' b = some o) → H' a = some (exo a C (some dx)) → H' dx = some (exd dx [(f, v)]) → Q .non H'
theorem iniN {K : PySem.W.Frag} {FE C a : Addr} {f : Str} {v : V} {H : Hp} {Q : VK} (e : EC K FE C) (nf : PySem.W.findIn K (.ref C) f = some none) (h : H a = some (exo a C none))
    (q : ∀ H' dx, H dx = none → (∀ b o, H b = some o → b ≠ a → H' b = some o) → H' a = some (exo a C (some dx)) → H' dx = some (exd dx [(f, v)]) → Q .non H') :
    tOst K f (tVar 0) (tVar 1) { nx := fun _ H' => Q .non H', rt := Q } [some (.ref a), some v] H :=
  ⟨v, rfl, .ref a, rfl, a, C, rfl, e.oex, nf, .inl ⟨h, fun dx hd hn => q _ dx hd (fun c o hc hne => by rw [upd_ne hne, upd_ne (ne_of_none hc hd)]; exact hc) upd_same (by rw [upd_ne hn, upd_same])⟩⟩
/-- the own exception class with the attribute f -/
def Xe (P : Program) (w : World) (K : PySem.W.Frag) (mg : Str → Option Value) (base : Heap) (C : Addr) (f : Str) : Prop :=
  ∃ fI fd, OexC K C ∧ PySem.W.findIn K (.ref C) "__init__" = some (some (.ref fI)) ∧ PySem.W.typeIn K (.ref fI) = some (.type "function") ∧ Binds K fd ["self", f] [] ∧ FnOk P w K mg base CX0 1 fI fd ["self", f] (spIN C f)
def tRaiseN (C : Addr) (f : Str) (te : TE) (W : WX) : TS := fun _ σ H => te σ H fun v H1 => [v].length ≤ 1000 ∧ ∀ a, H1 a = none → spIN C f [.ref a, v] (upd H1 a (exo a C none))
  (fun u H2 => u = .non ∧ ∃ (d : Addr) (fs : List (Str × V)), H2 a = some (exo a C (some d)) ∧ H2 d = some (exd d fs) ∧ H1 d = none ∧ W (.ref C) (some d) σ (upd (del H2 a) d (.xd fs))) (fun _ _ _ => False)
theorem ps_raiseN {X : Cx} {C : Addr} {f x : Str} {W : WX} {e : Expr} {te : TE} {p pos pos' : Pos} (M : Xe X.prog X.w X.K X.mg X.base C f) (hr : Room 2 X.A) (hg : Gl X x) (hm : X.mg x = some (.ref C)) (hc : X.calm = true) (tk : Takes X W) (he : PE X e te)
    (hdb : (x == ("__debug__" : Str)) = false := by decide) (hst : starEach [e] X.env = (false, eval e X.env) :: starEach [] X.env := by rfl) :
    PS X (.Raise (some (.Call (.Name x p) [e] [] pos)) none pos') (tRaiseN C f te W) := by
  obtain ⟨fI, fd, T, iC, tI, hb, F1⟩ := M
  exact ps_raise (pos := pos') hc tk (pmk_oex (p := p) (pos := pos) T iC tI F1 hr hb .nil pass0 hg hm (pa_cons he pa_nil (hs := hst)) hdb hst rfl)
theorem raiseN_go {C : Addr} {f : Str} {v : V} {W : WX} {σ : L2.St} {H : Hp} (q : ∀ d H', H d = none → Same H H' → H' d = some (.xd [(f, v)]) → W (.ref C) (some d) σ H') :
    [v].length ≤ 1000 ∧ ∀ a, H a = none → spIN C f [.ref a, v] (upd H a (exo a C none))
      (fun u H2 => u = .non ∧ ∃ (d : Addr) (fs : List (Str × V)), H2 a = some (exo a C (some d)) ∧ H2 d = some (exd d fs) ∧ H d = none ∧ W (.ref C) (some d) σ (upd (del H2 a) d (.xd fs))) (fun _ _ _ => False) := by
  refine ⟨(by decide : 1 ≤ 1000), fun a ha => ⟨a, v, rfl, upd_same, fun H2 dx hd k h1 h2 => ⟨rfl, dx, _, h1, h2, ?_, ?_⟩⟩⟩
  · have n : dx ≠ a := fun z => by rw [z, upd_same] at hd; cases hd
    rw [upd_ne n] at hd
    exact hd
  · have n : dx ≠ a := fun z => by rw [z, upd_same] at hd; cases hd
    rw [upd_ne n] at hd
    refine q dx _ hd (fun b o hb => ?_) upd_same
    rw [upd_ne (ne_of_none hb hd), del_ne (ne_of_none hb ha)]
    exact k b o (by rw [upd_ne (ne_of_none hb ha)]; exact hb) (ne_of_none hb ha)
theorem raise_var {C : Addr} {f : Str} {v : V} {W : WX} {D : Ends} {σ : L2.St} {H : Hp} {i : Nat} (h : σ[i]? = some (some v)) (q : ∀ d H', H d = none → Same H H' → H' d = some (.xd [(f, v)]) → W (.ref C) (some d) σ H') : tRaiseN C f (tVar i) W D σ H :=
  ⟨v, h, raiseN_go (W := W) (σ := σ) q⟩
/-- the slots are as many as the names -/
theorem takes_len {X : Cx} {W : WX} (tk : Takes X W) : Takes X (fun cls d σ H => σ.length = X.N.length → W cls d σ H) := fun u s' x => by
  obtain ⟨a, B, sJ, pins, σ, H, cls, d, e, J, nb, up, sky, na, os, ag, h⟩ := x
  exact tk u s' ⟨a, B, sJ, pins, σ, H, cls, d, e, J, nb, up, sky, na, os, ag, h J.len⟩
theorem pss_ex {X : Cx} {b : List Stmt} {α : Sort 1} {Pr : α → Prop} {t : α → TS} (h : ∀ x, Pr x → PSs X b (t x)) : PSs X b (fun D σ H => ∃ x, Pr x ∧ t x D σ H) :=
  ⟨fun pins s σ H D I ⟨x, hp, ht⟩ => (h x hp).run pins s σ H D I ht⟩
/-- a def whose code object is known, no repr around -/
theorem fnG_cd {P : Program} {w : World} {K : PySem.W.Frag} {mg : Str → Option Value} {base : Heap} {x qual : Str} {st : Stmt} {f : Addr} {N ps : List Str} {k : Nat} {sp : Sp} {oc kV doc pm cdv ct : Value} {od an : Option Addr} {osl : Array (Option Value)}
    (lk : K.lookup f = some ⟨oc, od, .func (PySem.W.fnOf x qual (defArgs st) (defBody st) (defScope st) .none kV doc pm an cdv ct), osl⟩) (hcd : PySem.W.codeIn K cdv qual = true) (S : FnScope N ps (defScope st)) (len : ∀ vs H Q E, sp vs H Q E → vs.length = ps.length)
    (hb : ∀ (A : Around) (outer : List Env) (s : Shared) (H : Hp) (vs : List V) (Q : VK) (E : XK), RoomG k (A.deeper (envOfC qual (defScope st) s.heap.objs.size f cdv)) → sp vs H Q E →
      ∃ t, PSs (cxOf CX0 P w K mg base N qual (defScope st) f cdv A outer s H E).nox (defBody st) t ∧ t { nx := fun _ H' => Q .non H', rt := Q } (start N vs) H) :
    FnG P w K mg base CX0 (k + 1) f (PySem.W.fnOf x qual (defArgs st) (defBody st) (defScope st) .none kV doc pm an cdv ct) ps sp := by
  refine ⟨len, fun A outer s H args us vs Q E hr e0 bd rv hsp => ?_⟩
  have kin : K.In s.heap := e0.mod.kin.keeps fun b o z => (e0.bs b o z).1
  have nol : s.heap.NoLimit := e0.mod.nolimit.keeps fun b o z => (e0.bs b o z).1
  have kinds : ∀ y ∈ ps.zip us, (defScope st).names.lookup y.1 = some .local ∨ ((defScope st).names.lookup y.1 = some .cell ∧ ((cellsFrom (s.heap.objs.size + 1) (defScope st).names []).lookup y.1).isSome = true) := by
    rintro ⟨n, v⟩ hy
    cases S.par n (List.of_mem_zip hy).1 with
    | inl z => exact .inl z
    | inr z => exact .inr ⟨z, PySem.W.cellsFrom_some _ _ _ (.inl z)⟩
  refine codeAny_call_function hr.r.depth (kin _ _ lk) rfl S.co S.gen rfl (PySem.W.codeRec_of kin hcd) (bd _ _ _ _ (wpAny_newFunctionEnv_cells S.kind kinds fun env he s1 x => ?_))
  cases he
  refine ⟨nol.keeps x.toInCall.keep, codeAny_func ?_⟩
  obtain ⟨t, pt0, ht⟩ := hb A outer s H vs Q E (hr.deep _) hsp
  have pt := pt0.nox
  refine wpAny_mono (pt.run [] s1 (start N vs) H _ (inv_start S hr.r.hd e0 (len _ _ _ _ hsp) rv x) ht) ?_ (fun e s' z => z)
  intro fl s' hs
  match fl, hs with
  | .ret u, ⟨v, σ', H', J, r2, q⟩ => exact ⟨v, H', J.os, J.bare, J.base, J.hok, r2, q⟩
  | .next, ⟨σ', H', J, q⟩ => exact ⟨V.non, H', J.os, J.bare, J.base, J.hok, (show RelV V.non Value.none from rfl), q⟩
  | .brk, ⟨_, _, _, q⟩ => exact False.elim q
  | .cont, ⟨_, _, _, q⟩ => exact False.elim q
/-- a list changes, the tables stay -/
theorem tabs_lst {T : List (Addr × Str)} {H : Hp} {l : Addr} {xs : List V} {o : HO} (hl : H l = some (.lst xs)) (t : LamX.Tabs T H) : LamX.Tabs T (upd H l o) := fun x hx => by
  obtain ⟨ps, h1, h2, h3⟩ := t x hx
  refine ⟨ps, ?_, h2, fun pos cv hc => ?_⟩
  · rw [upd_ne (ne_of h1 hl (by intro z; cases z))]
    exact h1
  · obtain ⟨c, e1, e2⟩ := h3 pos cv hc
    refine ⟨c, e1, ?_⟩
    rw [upd_ne (ne_of e2 hl ?_)]
    · exact e2
    · intro z
      unfold LamX.CodeO at z
      cases z
end Fp

/-! tables: what the laws about them share -/
namespace Fp
open PySem PySem.Spec PyProof.Rows L2 ClX
mutual
/-- what is no list and no tuple may change -/
theorem Dt.keep {H H' : Hp} (e1 : ∀ b xs, H b = some (.lst xs) → H' b = some (.lst xs)) (e2 : ∀ b xs, H b = some (.tup xs) → H' b = some (.tup xs)) : ∀ {d : PyData} {v : V}, Dt H v d → Dt H' v d
  | .none, _, .non => .non
  | .bool _, _, .bl b => .bl b
  | .int _, _, .int i => .int i
  | .str _, _, .str x => .str x
  | .list ds, _, .lst h t => .lst (e1 _ _ h) (Dts.keep e1 e2 t)
  | .tuple ds, _, .tup h t => .tup (e2 _ _ h) (Dts.keep e1 e2 t)
theorem Dts.keep {H H' : Hp} (e1 : ∀ b xs, H b = some (.lst xs) → H' b = some (.lst xs)) (e2 : ∀ b xs, H b = some (.tup xs) → H' b = some (.tup xs)) : ∀ {ds : List PyData} {vs : List V}, Dts H vs ds → Dts H' vs ds
  | [], _, .nil => .nil
  | _ :: _, _, .cons h t => .cons (Dt.keep e1 e2 h) (Dts.keep e1 e2 t)
end
/-- an instance changes -/
theorem Dt.ins {H H' : Hp} {p C dx : Addr} {fs : List (Str × V)} (hp : H p = some (.ins C dx fs)) (e : ∀ b o, H b = some o → b ≠ p → H' b = some o) {d : PyData} {v : V} (h : Dt H v d) : Dt H' v d :=
  h.keep (fun b xs hb => e b _ hb (ne_of hb hp (by intro z; cases z))) fun b xs hb => e b _ hb (ne_of hb hp (by intro z; cases z))
/-! ### comprehensions whose items are new data -/
theorem del_old {H : Hp} {D : Addr} : Same (del H D) H := fun b o hb => by
  by_cases h : b = D
  · rw [h, del_same] at hb
    cases hb
  · rw [del_ne h] at hb
    exact hb
theorem del_mut {H : Hp} {D : Addr} {o : HO} : del (upd H D o) D = del H D := by
  funext b
  by_cases h : b = D
  · rw [h, del_same, del_same]
  · rw [del_ne h, del_ne h, upd_ne h]
theorem del_mono {H H' : Hp} {D : Addr} (e : Same H H') : Same (del H D) (del H' D) := fun b o hb => by
  by_cases h : b = D
  · rw [h, del_same] at hb
    cases hb
  · rw [del_ne h] at hb ⊢
    exact e b o hb
section
variable {K : PySem.W.Frag} {g : TG} {tt : TT} {te : TE} {vs : List Nat} {σ : L2.St} {H : Hp} {Q : VK} {J : It} {xs : List V} {S : Hp → Prop} {α : Type}
theorem lcg_dt (hJ : JSeq J xs S) (hS : S H) (as : List α) (dat : α → PyData) (hxs : Dts H xs (as.map dat)) (hz : as.length < 100000) (fv : α → PyData)
    (hs : ∀ D x a, a ∈ as → Dt H x (dat a) → ∀ H', Same H H' → H' D ≠ none → ∀ (R1 : V → Hp → Prop) (R0 : Hp → Prop), (∀ v H'', Same H' H'' → Dt (del H'' D) v (fv a) → R1 v H'') →
      g x (wipe σ vs) H' fun σ2 H2 => wipe σ2 vs = wipe σ vs ∧ tt σ2 H2 fun b H3 => if b = true then te σ2 H3 R1 else R0 H3)
    (hd : ∀ D H', H D = none → Same H H' → Dt H' (.ref D) (.list (as.map fv)) → Q (.ref D) H') : LcG J g tt te vs σ H Q := by
  have hlen : xs.length = as.length := by rw [hxs.len, List.length_map]
  refine lcg_by hJ (fun D i acc H' => Same H H' ∧ H' D = some (.lst acc) ∧ Dts (del H' D) acc ((as.take i).map fv)) (fun D hD => ⟨same_new hD, upd_same, .nil⟩)
    (fun D i acc H' _ _ p => hJ.same _ _ hS p.1) (fun D i x acc H' hD hx p => ?_) (fun D acc H' hD p => ?_)
  · obtain ⟨p1, p2, p3⟩ := p
    have hi : i < as.length := hlen ▸ (List.getElem?_eq_some_iff.mp hx).1
    have ha : as[i]? = some as[i] := List.getElem?_eq_getElem hi
    obtain ⟨x', hx', hdx⟩ := hxs.get (i := i) (d := dat as[i]) (by rw [List.getElem?_map, ha]; rfl)
    rw [hx] at hx'
    cases hx'
    have tk : (as.take (i + 1)).map fv = (as.take i).map fv ++ [fv as[i]] := by
      rw [List.take_add_one, ha, List.map_append]
      rfl
    refine hs D x as[i] (List.getElem_mem hi) hdx H' p1 (by rw [p2]; intro z; cases z) _ _ (fun v H'' e hv => ?_)
    refine ⟨acc, e _ _ p2, ?_, acc ++ [v], Same.mut (p1.trans e) hD, upd_same, ?_⟩
    · refine Nat.lt_of_lt_of_le (Nat.lt_of_le_of_lt (?_ : _ ≤ as.length) hz) (by decide)
      rw [p3.len, List.length_map, List.length_take]
      exact Nat.min_le_right _ _
    · rw [tk, del_mut]
      exact (p3.same (del_mono e)).app (.cons hv .nil)
  · obtain ⟨p1, p2, p3⟩ := p
    rw [hlen, List.take_length] at p3
    exact hd D H' hD p1 (.lst p2 (p3.same del_old))
end
theorem dts_rng {H : Hp} {lo : Int} (n : Nat) : Dts H (rngV lo n) ((List.range n).map fun (i : Nat) => PyData.int (lo + i)) := by
  have h : ∀ l : List Nat, Dts H (l.map fun (i : Nat) => V.int (lo + i)) (l.map fun (i : Nat) => PyData.int (lo + i)) := fun l => by
    induction l with
    | nil => exact .nil
    | cons x r ih => exact .cons (.int _) ih
  exact h _
/-- rows of numbers -/
def mD (E : List (List Int)) : PyData := .list (E.map fun r => .list (r.map PyData.int))
def tFl (n : Int) (R : V) : List (Str × V) := putF "_rows" R (putF "size" (.int n) [])
theorem s_sr : ¬ (("size" : Str) = "_rows") := by decide +kernel
theorem tFl_size (n : Int) (R : V) : (tFl n R).lookup ("size" : Str) = some (.int n) := by
  unfold tFl
  rw [lookup_putF, if_neg s_sr, lookup_putF, if_pos rfl]
theorem tFl_rows (n : Int) (R : V) : (tFl n R).lookup ("_rows" : Str) = some R := by
  unfold tFl
  rw [lookup_putF, if_pos rfl]
theorem tFl_no (n : Int) (R : V) (m : Str) (h1 : ¬ m = "_rows") (h2 : ¬ m = "size") : (tFl n R).lookup m = none := by
  unfold tFl
  rw [lookup_putF, if_neg h1, lookup_putF, if_neg h2]
  rfl
theorem tFl_put (n : Int) (R S : V) : putF "_rows" S (tFl n R) = tFl n S := by
  unfold tFl
  have e : ∀ R S : V, putF "_rows" S (putF "_rows" R (putF "size" (.int n) [])) = putF "_rows" S (putF "size" (.int n) []) := fun R S => by rfl
  exact e R S
structure TxT (K : PySem.W.Frag) (mg : Str → Option Value) (C : Addr) : Prop where
  mC : mg "Table" = some (.ref C)
  cl : Cls K C
  nS : NoAttr K C "size"
  nR : NoAttr K C "_rows"
/-- a table stands at t, its rows are E -/
def TbAt (H : Hp) (C t : Addr) (E : List (List Int)) : Prop := ∃ dx R, H t = some (.ins C dx (tFl (E.length : Nat) R)) ∧ Dt H R (mD E)
theorem TbAt.same {H H' : Hp} {C t : Addr} {E : List (List Int)} (h : TbAt H C t E) (e : Same H H') : TbAt H' C t E := by
  obtain ⟨dx, R, h1, h2⟩ := h
  exact ⟨dx, R, e _ _ h1, h2.same e⟩
def OkV (n z : Int) : Prop := 0 ≤ z ∧ z < n
/-- numbers, in a list: all are values of a table of size n, or the first that is none -/
def spCk (K : PySem.W.Frag) (CV : Addr) : Sp := fun vs H Q E => ∃ (l : Addr) (zs : List Int) (n : Int), vs = [.ref l, .int n] ∧ SqL K H l (zs.map V.int) ∧ ((∀ z ∈ zs, OkV n z) → Q .non H) ∧
  (∀ (i : Nat) (z : Int), zs[i]? = some z → ¬ OkV n z → (∀ (j : Nat) (y : Int), j < i → zs[j]? = some y → OkV n y) → ∀ d H', H d = none → Same H H' → H' d = some (.xd [("value", .int z)]) → E (.ref CV) (some d) H')
/-- Table.__init__ -/
def spTI (C CS : Addr) : Sp := fun vs H Q E => ∃ (p dx : Addr) (n : Int), vs = [.ref p, .int n] ∧ H p = some (.ins C dx []) ∧ (1 ≤ n → n ≤ 60 → ∀ H', (∀ b o, H b = some o → b ≠ p → H' b = some o) → (∃ R, H' p = some (.ins C dx (tFl n R)) ∧ Dt H' R (mD (List.replicate n.toNat (List.replicate n.toNat 0)))) → Q .non H') ∧
  (¬ (1 ≤ n ∧ n ≤ 60) → ∀ d H', H d = none → Same H H' → H' d = some (.xd [("size", .int n)]) → E (.ref CS) (some d) H')
/-! ### texts of rows -/
def rJoin (K : PySem.W.Frag) : V → List V → Hp → VK → Prop := fun x xs H Q => ∃ a p, ∃ ys : List Str, x = .str a ∧ xs = [.ref p] ∧ SqL K H p (ys.map V.str) ∧ (ys.map (·.length)).sum + ys.length * a.length ≤ 16777216 ∧ Q (.str (Txt.join a ys)) H
def rSplit : V → List V → Hp → VK → Prop := fun x xs H Q => ∃ a b, x = .str a ∧ xs = [.str b] ∧ (b.length == 0) = false ∧ a.length + 2 ≤ sizeLine ∧ ∀ p, H p = none → Q (.ref p) (upd H p (.lst ((Txt.split a b).map V.str)))
section
variable {X : Cx} {K : PySem.W.Frag} {o e : Expr} {to te : TE} {apos pos : Pos}
theorem pe_joinK (K : PySem.W.Frag) (ho : PE X o to) (he : PE X e te) (hK : X.K = K := by rfl) (hs : starEach [e] X.env = [(false, eval e X.env)] := by rfl) (hbase : attributeBase o "join" X.env (eval o X.env) = eval o X.env := by rfl) (hline : (apos.endLine == pos.line) = true := by rfl) :
    PE X (.Call (.Attribute o "join" apos) [e] [] pos) (tM1 (rJoin K) to te) := by
  subst hK
  refine pe_m1 F.slot_str_join F.type_str_join ?_ ho he hs hbase hline
  intro pins s σ H x xs v us Q I rx rs h
  obtain ⟨a, p, ys, e1, e2, h1, h2, q⟩ := h
  exact mt_join pins s σ H x xs v us Q I rx rs ⟨a, p, ys, e1, e2, .inl h1, h2, q⟩
theorem pe_splitK (ho : PE X o to) (he : PE X e te) (hs : starEach [e] X.env = [(false, eval e X.env)] := by rfl) (hbase : attributeBase o "split" X.env (eval o X.env) = eval o X.env := by rfl) (hline : (apos.endLine == pos.line) = true := by rfl) :
    PE X (.Call (.Attribute o "split" apos) [e] [] pos) (tM1 rSplit to te) := pe_split ho he hs hbase hline
def rStrI : List V → Hp → VK → Prop := fun xs H Q => ∃ i : Int, xs = [.int i] ∧ i.natAbs.log2 < 1920 ∧ Q (.str (Str.ofString (toString i))) H
theorem call_strI : CallR X (.type "str") rStrI := call_str_int
end
def nS (z : Int) : Str := Str.ofString (toString z)
def rowT (r : List Int) : Str := Txt.join " " (r.map nS)
def tabT (E : List (List Int)) : Str := Txt.join "\n" (E.map rowT)
theorem nS_len60 : ∀ n : Nat, n < 100 → (nS (n : Int)).length ≤ 2 := by decide +kernel
theorem nS_len {z : Int} (h : OkV 100 z) : (nS z).length ≤ 2 := by
  obtain ⟨n, rfl⟩ : ∃ n : Nat, z = (n : Int) := ⟨z.toNat, by have := h.1; omega⟩
  exact nS_len60 n (by have := h.2; omega)
theorem sum_le {l : List Nat} {b : Nat} (h : ∀ x ∈ l, x ≤ b) : l.sum ≤ l.length * b := by
  induction l with
  | nil => exact Nat.zero_le _
  | cons x r ih =>
    rw [List.sum_cons, List.length_cons, Nat.succ_mul]
    have h1 := h x List.mem_cons_self
    have h2 := ih fun y hy => h y (List.mem_cons_of_mem _ hy)
    omega
theorem join_le {y : Str} {b : Nat} : ∀ {l : List Str}, (∀ x ∈ l, x.length ≤ b) → (Txt.join y l).length ≤ l.length * (b + y.length)
  | [], _ => by
    show (Txt.join y []).length ≤ _
    rw [TL.join_eq]
    exact Nat.zero_le _
  | a :: r, h => by
    rw [TL.join_eq, len_join_cons]
    have h1 := sum_le (l := (a :: r).map (·.length)) (b := b) fun x hx => by
      obtain ⟨z, hz, rfl⟩ := List.mem_map.mp hx
      exact h z hz
    rw [List.length_map, List.length_cons] at h1
    rw [List.length_cons, Nat.mul_add]
    have h2 : r.length * y.length ≤ (r.length + 1) * y.length := Nat.mul_le_mul_right _ (Nat.le_succ _)
    omega
/-- numbers of a table -/
def OkE (E : List (List Int)) : Prop := E.length ≤ 64 ∧ ∀ r ∈ E, r.length ≤ 64 ∧ ∀ z ∈ r, OkV 100 z
theorem rowT_len {r : List Int} (h : r.length ≤ 64 ∧ ∀ z ∈ r, OkV 100 z) : (rowT r).length ≤ 192 := by
  have h1 := join_le (y := " ") (b := 2) (l := r.map nS) fun x hx => by
    obtain ⟨z, hz, rfl⟩ := List.mem_map.mp hx
    exact nS_len (h.2 z hz)
  have e : (" " : Str).length = 1 := rfl
  rw [List.length_map, e] at h1
  unfold rowT
  have := h.1
  omega
/-- promises of the methods -/
def spWR (C : Addr) : Sp := fun vs H Q _ => ∃ R E, vs = [R] ∧ Dt H R (mD E) ∧ 1 ≤ E.length ∧ E.length ≤ 60 ∧ ∀ (t dx : Addr) H', H t = none → Same H H' → H' t = some (.ins C dx (tFl (E.length : Nat) R)) → Q (.ref t) H'
def spGet (C CV : Addr) : Sp := fun vs H Q E => ∃ (t p : Addr) (M : List (List Int)) (a b : Int), vs = [.ref t, .ref p] ∧ TbAt H C t M ∧ (∀ r ∈ M, r.length = M.length) ∧ H p = some (.tup [.int a, .int b]) ∧
  (∀ (r : List Int) (z : Int) H', OkV M.length a → OkV M.length b → M[a.toNat]? = some r → r[b.toNat]? = some z → Same H H' → Q (.int z) H') ∧
  (∀ z, (¬ OkV M.length a ∧ z = a ∨ OkV M.length a ∧ ¬ OkV M.length b ∧ z = b) → ∀ d H', H d = none → Same H H' → H' d = some (.xd [("value", .int z)]) → E (.ref CV) (some d) H')
def spTStr (C : Addr) : Sp := fun vs H Q _ => ∃ t M, vs = [.ref t] ∧ TbAt H C t M ∧ OkE M ∧ ∀ H', Same H H' → Q (.str (tabT M)) H'
/-! ### o[e], o of an own class with its own `__getitem__` -/
def Ge (P : Program) (w : World) (K : PySem.W.Frag) (mg : Str → Option Value) (base : Heap) (k : Nat) (C : Addr) (ps : List Str) (sp : Sp) : Prop :=
  ∃ g fd, Meth K C "__getitem__" g ∧ PySem.W.fnIn K g = true ∧ Binds K fd ps [] ∧ FnOk P w K mg base (L2.CX P w) k g fd ps sp
def rIxOwn (C : Addr) (sp : Sp) (E : XK) : R2 := fun x y H Q => ∃ c dx fs, x = .ref c ∧ H c = some (.ins C dx fs) ∧ sp [.ref c, y] H Q E
theorem pe_ixOwn {X : Cx} {k : Nat} {C : Addr} {ps : List Str} {sp : Sp} {E : XK} {a b : Expr} {ta tb : TE} {pos : Pos} (M : Ge X.prog X.w X.K X.mg X.base k C ps sp) (hr : Room (k + 1) X.A) (hx : Passes (L2.CX X.prog X.w) X E) (ha : PE X a ta) (hb : PE X b tb)
    (hs : ∀ o i, subscripted b true o i = runValue (.builtin "lifetime.subscript" ⟨[o, i], []⟩)) : PE X (.Subscript a b pos) (tOp (rIxOwn C sp E) ta tb) := by
  refine ⟨fun pins s σ H Q I h => ?_⟩
  refine Subscript_ (binT ha hb I h fun v u s2 x y H2 I2 rx ry q => ?_)
  obtain ⟨c, dx, fs, rfl, hc, q⟩ := q
  obtain rfl : v = Value.ref c := rx
  obtain ⟨g, fd, h1, hfn, h2, h3⟩ := M
  obtain ⟨od, J⟩ := inst_of I2 hc
  obtain ⟨m, hF⟩ := I2.fr
  have F := h3.raw (dvs := []) h2 .nil
  refine PySem.W.sub_K hF I2.ok.mod.kin J h1.at_ hfn h1.fn ?_ (hs _ _)
  exact wpAny_mono (wpAny_call (SlX.run_at (us := [.ref c, u]) (ws := [.ref c, y]) F hr.in1 I2.env0.in1 hx I2 (.cons rfl (.cons ry .nil)) q)) (fun w s' z => z) fun _ _ x => x
/-! ### str of an own thing -/
def rOwnStr (C : Addr) (sp : Sp) : List V → Hp → VK → Prop := fun xs H Q => ∃ a dx fs, xs = [.ref a] ∧ H a = some (.ins C dx fs) ∧ sp [.ref a] H (fun v H' => ∃ z, v = .str z ∧ Q (.str z) H') E0
theorem call_ownStr {X : Cx} {k : Nat} {C : Addr} {ps : List Str} {sp : Sp} (M : Mn X.prog X.w X.K X.mg X.base k C "__str__" ps sp) (hr : Room (k + 2) X.A) : CallR X (.type "str") (rOwnStr C sp) := by
  intro pins s σ H xs us Q I r h
  obtain ⟨a, dx, fs, rfl, ha, q⟩ := h
  obtain ⟨u, rfl, ru⟩ := vals1 r
  obtain rfl : u = Value.ref a := ru
  obtain ⟨g, fd, h1, h2, h3⟩ := M
  obtain ⟨od, J⟩ := inst_of I ha
  have F := h3.raw (dvs := []) h2 .nil
  have hr2 : Room k X.A.in1.in1 := (show Room (k + 1) X.A.in1 from Room.in1 hr).in1
  refine PySem.W.kso_call hr2.units0 I.kIn J h1.at_ h1.fn ?_
  refine wpAny_mono (wpAny_call (SlX.run_at (us := [.ref a]) (ws := [.ref a]) F hr2 I.env0.in1.in1 (E := E0) pass0 I (.cons rfl .nil) q)) (fun w s' z => ?_) fun _ _ x => x
  obtain ⟨z', H', I', rz, b, ei, qz⟩ := z
  subst ei
  obtain ⟨t, e⟩ := (show ∃ t, w = Value.str b t from rz)
  subst e
  exact ⟨.str b, H', I', ⟨_, rfl⟩, qz⟩
/-! ### o[e] = v, o of an own class with its own `__setitem__` -/
def Se (P : Program) (w : World) (K : PySem.W.Frag) (mg : Str → Option Value) (base : Heap) (k : Nat) (C : Addr) (ps : List Str) (sp : Sp) : Prop :=
  ∃ g fd, Meth K C "__setitem__" g ∧ PySem.W.noSeq K C = true ∧ Binds K fd ps [] ∧ FnOk P w K mg base (L2.CX P w) k g fd ps sp
def rSetOwn (C : Addr) (sp : Sp) (E : XK) : V → V → V → Hp → (Hp → Prop) → Prop := fun o i v H Q => ∃ c dx fs, o = .ref c ∧ H c = some (.ins C dx fs) ∧ sp [.ref c, i, v] H (fun _ H' => Q H') E
theorem set_own {X : Cx} {k : Nat} {C : Addr} {ps : List Str} {sp : Sp} {E : XK} (M : Se X.prog X.w X.K X.mg X.base k C ps sp) (hr : Room k X.A) (hx : Passes (L2.CX X.prog X.w) X E) : PSet X (rSetOwn C sp E) := by
  intro pins s σ H o i v ov iv u Q I ro ri rv h
  obtain ⟨c, dx, fs, rfl, hc, q⟩ := h
  obtain rfl : ov = Value.ref c := ro
  obtain ⟨g, fd, h1, hq, h2, h3⟩ := M
  obtain ⟨od, J⟩ := inst_of I hc
  obtain ⟨m, hF⟩ := I.fr
  have F := h3.raw (dvs := []) h2 .nil
  refine PySem.W.ksp_setItem hF I.ok.mod.kin J hq h1.at_ h1.fn ?_
  refine wpAny_mono (wpAny_call (SlX.run_at (us := [.ref c, iv, u]) (ws := [.ref c, i, v]) F hr I.env0 hx I (.cons rfl (.cons ri (.cons rv .nil))) q)) (fun w s' z => ?_) fun _ _ x => x
  obtain ⟨z', H', I', rz, qz⟩ := z
  exact ⟨H', I', qz⟩
end Fp

/-! lines and words -/
namespace Fp
open PySem PySem.Spec PyProof.Rows L2 ClX
/-- plain signs, no newline -/
def chs (l : Str) : Prop := ∀ c ∈ TL.tl l, c < 128 ∧ c ≠ 10
theorem mem_joinL {S : List Nat} : ∀ {ps : List (List Nat)} {p : List Nat} {c : Nat}, p ∈ ps → c ∈ p → c ∈ TL.joinL S ps
  | [x], p, c, hp, hc => by
    rw [List.mem_singleton.mp hp] at hc
    exact hc
  | x :: y :: r, p, c, hp, hc => by
    show c ∈ x ++ (S ++ TL.joinL S (y :: r))
    rcases List.mem_cons.mp hp with rfl | hp
    · exact List.mem_append_left _ hc
    · exact List.mem_append_right _ (List.mem_append_right _ (mem_joinL hp hc))
theorem of_joinL {S : List Nat} : ∀ {ps : List (List Nat)} {c : Nat}, c ∈ TL.joinL S ps → c ∈ S ∨ ∃ p ∈ ps, c ∈ p
  | [], c, h => absurd h (by simp [TL.joinL])
  | [x], c, h => .inr ⟨x, List.mem_singleton.mpr rfl, h⟩
  | x :: y :: r, c, h => by
    have h : c ∈ x ++ (S ++ TL.joinL S (y :: r)) := h
    rcases List.mem_append.mp h with h | h
    · exact .inr ⟨x, List.mem_cons_self, h⟩
    · rcases List.mem_append.mp h with h | h
      · exact .inl h
      · rcases of_joinL h with h | ⟨p, hp, hc⟩
        · exact .inl h
        · exact .inr ⟨p, List.mem_cons_of_mem _ hp, hc⟩
theorem chs_split {l : Str} (h : chs l) {w : Str} (hw : w ∈ Txt.split l " ") : chs w := fun c hc => by
  refine h c ?_
  have e : TL.tl l = TL.joinL (TL.tl " ") ((Txt.split l " ").map TL.tl) := by
    rw [← TL.tl_join, StrLaws.join_split]
  rw [e]
  exact mem_joinL (List.mem_map_of_mem hw) hc
theorem chs_join {ws : List Str} (h : ∀ w ∈ ws, chs w) : chs (Txt.join " " ws) := fun c hc => by
  rw [TL.join_eq, TL.tl_join] at hc
  rcases of_joinL hc with hc | ⟨p, hp, hc⟩
  · have e : TL.tl (" " : Str) = [32] := rfl
    rw [e, List.mem_singleton] at hc
    subst hc
    decide
  · obtain ⟨w, hw, rfl⟩ := List.mem_map.mp hp
    exact h w hw c hc
theorem chs_ok {l : Str} (h : chs l) : OkS l := okS_iff.mpr fun c hc => by
  have := (h c hc).1
  omega
/-- how long its words make a line -/
def jl (ws : List Str) : Nat := (ws.map (·.length)).sum + ws.length
theorem jl_join (ws : List Str) : (Txt.join " " ws).length ≤ jl ws := by
  cases ws with
  | nil => exact Nat.zero_le _
  | cons a r =>
    rw [TL.join_eq, len_join_cons]
    unfold jl
    have e : (" " : Str).length = 1 := rfl
    rw [e, List.length_cons]
    omega
theorem jl_split (l : Str) : jl (Txt.split l " ") = l.length + 1 := by
  have h := StrLaws.join_split l " "
  have hp := split_pos l " "
  cases e : Txt.split l " " with
  | nil => rw [e] at hp; exact absurd hp (by decide)
  | cons a r =>
    rw [e] at h
    have h2 := len_join_cons " " a r
    rw [h] at h2
    have e1 : (" " : Str).length = 1 := rfl
    rw [e1] at h2
    unfold jl
    rw [List.length_cons]
    omega
theorem jl_app (a b : List Str) : jl (a ++ b) = jl a + jl b := by
  unfold jl
  rw [List.map_append, List.sum_append, List.length_append]
  omega
theorem jl_one (w : Str) : jl [w] = w.length + 1 := by
  unfold jl
  simp
theorem jl_take (ws : List Str) (n : Nat) : jl (ws.take n) ≤ jl ws := by
  have h := jl_app (ws.take n) (ws.drop n)
  rw [List.take_append_drop] at h
  omega
theorem jl_drop (ws : List Str) (n : Nat) : jl (ws.drop n) ≤ jl ws := by
  have h := jl_app (ws.take n) (ws.drop n)
  rw [List.take_append_drop] at h
  omega
theorem jl_cut (ws : List Str) (n m : Nat) (h : n ≤ m) : jl (ws.take n) + jl (ws.drop m) ≤ jl ws := by
  have h1 := jl_app (ws.take n) (ws.drop n)
  rw [List.take_append_drop] at h1
  have h2 : ws.drop m = (ws.drop n).drop (m - n) := by
    rw [List.drop_drop]
    congr 1
    omega
  rw [h2]
  have := jl_drop (ws.drop n) (m - n)
  omega
/-- lines as the laws write them -/
structure OkLs (m b : Nat) (ls : List Str) : Prop where
  many : ls.length ≤ m
  each : ∀ l ∈ ls, chs l ∧ l.length ≤ b
theorem nl_join {ls : List Str} (h : ∀ l ∈ ls, chs l) (hne : ls ≠ []) : Txt.split (Txt.join "\n" ls) "\n" = ls :=
  TL.split_join (y := "\n") (s := 10) (S := []) rfl (by decide +kernel) hne fun p hp hc => (h p hp 10 hc).2 rfl
/-- the lines of a text -/
def linesOf (t : Str) : List Str := if t.length = 0 then [] else Txt.split t "\n"
theorem lines_join {ls : List Str} (h : ∀ l ∈ ls, chs l) (h1 : ls ≠ [("" : Str)]) : linesOf (Txt.join "\n" ls) = ls := by
  unfold linesOf
  by_cases he : ls = []
  · subst he
    rw [if_pos (by rw [TL.join_eq]; first | done | rfl)]
  · rw [if_neg, nl_join h he]
    intro hz
    cases ls with
    | nil => exact he rfl
    | cons a r =>
      rw [TL.join_eq, len_join_cons] at hz
      have e1 : ("\n" : Str).length = 1 := rfl
      rw [e1, List.map_cons, List.sum_cons] at hz
      have hr : r = [] := List.length_eq_zero_iff.mp (by omega)
      have ha : a.length = 0 := by omega
      subst hr
      refine h1 ?_
      have : a = ("" : Str) := by
        refine TL.ext_tl ?_
        rw [TL.len_tl] at ha
        rw [List.length_eq_zero_iff.mp ha]
        rfl
      rw [this]
/-! ### which line is wrong -/
def known (n : Nat) : List Str := (List.range n).map fun (k : Nat) => nS (k : Int)
def badL (n i : Nat) (l : Str) : Bool := decide (60 ≤ i) || !decide ((Txt.split l " ").length = n) || !(Txt.split l " ").all fun w => decide (w ∈ known n)
def wrongB (ls : List Str) (i : Nat) : Bool := match ls[i]? with
  | some l => badL ls.length i l
  | none => false
theorem nS_inj : ∀ i : Nat, i < 70 → ∀ j : Nat, j < 70 → nS (i : Int) = nS (j : Int) → i = j := by decide +kernel
theorem nS_chs : ∀ i : Nat, i < 100 → ∀ c ∈ TL.tl (nS (i : Int)), c < 128 ∧ c ≠ 10 := by decide +kernel
/-- good lines are rows of numbers -/
theorem row_of {n : Nat} : ∀ {ws : List Str}, (∀ w ∈ ws, w ∈ known n) → ∃ r : List Int, ws = r.map nS ∧ ∀ z ∈ r, OkV n z
  | [], _ => ⟨[], rfl, fun _ h => nomatch h⟩
  | w :: r, h => by
    obtain ⟨r', e, hr⟩ := row_of (ws := r) fun x hx => h x (List.mem_cons_of_mem _ hx)
    obtain ⟨k, hk, ek⟩ := List.mem_map.mp (h w List.mem_cons_self)
    refine ⟨(k : Int) :: r', by rw [List.map_cons, ← e, ← ek], fun z hz => ?_⟩
    rcases List.mem_cons.mp hz with rfl | hz
    · exact ⟨by omega, by have := List.mem_range.mp hk; omega⟩
    · exact hr z hz
/-! ### enumerate in a loop; dicts made by a comprehension -/
section
variable {K : PySem.W.Frag} {ta : TA} {g : TG} {tb : TS} {D : Ends} {σ : L2.St} {H : Hp} {xs : List V} {a : Addr}
theorem fr_iE : tFor (iEnum K ta) g tb D σ H = ta σ H (fun zs H1 => ∃ a xs, zs = [.ref a] ∧ SqL K H1 a xs ∧ ForG (Ite K a) g tb D σ H1) := rfl
theorem forg_enum (Pv : Nat → L2.St → Hp → Prop) (h0 : Pv 0 σ H) (hP : ∀ i σ' H', i ≤ xs.length → Pv i σ' H' → SqL K H' a xs)
    (hs : ∀ i x σ' H' T, xs[i]? = some x → Pv i σ' H' → H' T = none → g (.ref T) σ' (upd H' T (.tup [.int (i : Nat), x])) fun σ2 H2 => tb { D with nx := Pv (i + 1), ct := Pv (i + 1), bk := D.nx } σ2 H2)
    (hd : ∀ σ' H', Pv xs.length σ' H' → D.nx σ' H') : ForG (Ite K a) g tb D σ H := by
  refine ⟨fun i m σ' H' => m = xs.length - i ∧ i ≤ xs.length ∧ Pv i σ' H', ⟨xs.length, by simp, Nat.zero_le _, h0⟩, ?_⟩
  rintro i m σ' H' ⟨rfl, hi, p⟩
  have hS := hP i σ' H' hi p
  by_cases hlt : i < xs.length
  · refine .inr ⟨⟨xs, xs[i], hS, List.getElem?_eq_getElem hlt⟩, Pv (i + 1), fun σ'' H'' p' => ⟨xs.length - (i + 1), by omega, rfl, hlt, p'⟩, fun x H'' y => ?_⟩
    obtain ⟨T, x', rfl, hT, rfl, hx⟩ := y
    exact hs i x' σ' H' T (hx xs hS) p hT
  · have e : i = xs.length := by omega
    subst e
    exact .inl ⟨⟨xs, hS, Nat.le_refl _⟩, hd σ' H' p⟩
end
def DcG (J : It) (g : TG) (tt : TT) (tk tv : TE) (vs : List Nat) : TE := tDc (fun _ H R => R J H) g tt tk tv vs
section
variable {K : PySem.W.Frag} {ta : TA} {J : It} {g : TG} {tt : TT} {tk tv : TE} {vs : List Nat} {σ : L2.St} {H : Hp} {Q : VK} {xs : List V} {S : Hp → Prop}
theorem dc_iR : tDc (iRng1 ta) g tt tk tv vs σ H Q = ta σ H (fun zs H1 => ∃ j : Int, zs = [.int j] ∧ -(2 ^ 62) ≤ j ∧ j < 2 ^ 62 ∧ DcG (Itr 0 j.toNat) g tt tk tv vs σ H1 Q) := rfl
theorem dcg_by (hJ : JSeq J xs S) (Pv : Addr → Nat → Hp → Prop) (h0 : ∀ D, H D = none → Pv D 0 (upd H D (.dK []))) (hP : ∀ D i H', H D = none → i ≤ xs.length → Pv D i H' → S H')
    (hs : ∀ D i x H', H D = none → xs[i]? = some x → Pv D i H' → g x (wipe σ vs) H' fun σ2 H2 => wipe σ2 vs = wipe σ vs ∧ tt σ2 H2 fun b H3 =>
      if b = true then tk σ2 H3 fun y H4 => tv σ2 H4 fun z H5 => ∃ kvs k, y = kV k ∧ H5 D = some (.dK kvs) ∧ kvs.length < sizeLine ∧ Pv D (i + 1) (upd H5 D (.dK (putK kvs k z))) else Pv D (i + 1) H3)
    (hd : ∀ D H', H D = none → Pv D xs.length H' → Q (.ref D) H') : DcG J g tt tk tv vs σ H Q := by
  intro D hD
  refine ⟨fun i m H' => m = xs.length - i ∧ i ≤ xs.length ∧ Pv D i H', ⟨xs.length, by simp, Nat.zero_le _, h0 D hD⟩, ?_⟩
  rintro i m H' ⟨rfl, hi, p⟩
  have hS := hP D i H' hD hi p
  by_cases hlt : i < xs.length
  · refine .inr ⟨hJ.go i H' hS hlt, Pv D (i + 1), fun H'' p' => ⟨xs.length - (i + 1), by omega, rfl, hlt, p'⟩, fun x H'' y => ?_⟩
    obtain ⟨rfl, hx⟩ := hJ.yld i H' x H'' hS hlt y
    exact hs D i x _ hD hx p
  · have e : i = xs.length := by omega
    subst e
    exact .inl ⟨hJ.stop _ H' hS (Nat.le_refl _), hd D H' hD p⟩
end
/-- the dict from the texts of the first numbers to them -/
def kvsN : Nat → List (Key × V)
  | 0 => []
  | n + 1 => putK (kvsN n) (.inr (nS (n : Int))) (.int (n : Int))
theorem kvsN_len : ∀ n, (kvsN n).length ≤ n
  | 0 => Nat.le_refl _
  | n + 1 => Nat.le_trans (length_putK _ _ _) (Nat.succ_le_succ (kvsN_len n))
theorem kvsN_in (w : Str) : ∀ n, (valV (kvsN n) (Sum.inr w : Key)).isSome = decide (w ∈ known n)
  | 0 => rfl
  | n + 1 => by
    have ih := kvsN_in w n
    have e : known (n + 1) = known n ++ [nS (n : Int)] := by
      unfold known
      rw [List.range_succ, List.map_append]
      rfl
    show (valV (putK (kvsN n) (.inr (nS (n : Int))) (.int (n : Int))) (Sum.inr w : Key)).isSome = _
    rw [valV_put, e]
    by_cases h : w = nS (n : Int)
    · rw [if_pos (by rw [h]), decide_eq_true (List.mem_append_right _ (by rw [h]; exact List.mem_singleton.mpr rfl))]
      rfl
    · rw [if_neg (fun z => h (Sum.inr.inj z)), ih]
      refine decide_eq_decide.mpr ⟨fun z => List.mem_append_left _ z, fun z => ?_⟩
      rcases List.mem_append.mp z with z | z
      · exact z
      · exact absurd (List.mem_singleton.mp z) h
theorem kvsN_at {j : Nat} : ∀ {n : Nat}, j < n → n ≤ 70 → valV (kvsN n) (Sum.inr (nS (j : Int)) : Key) = some (.int (j : Int))
  | n + 1, h, hn => by
    show valV (putK (kvsN n) (.inr (nS (n : Int))) (.int (n : Int))) (Sum.inr (nS (j : Int)) : Key) = _
    rw [valV_put]
    by_cases e : j = n
    · subst e
      rw [if_pos rfl]
    · rw [if_neg (fun z => e (nS_inj j (by omega) n (by omega) (Sum.inr.inj z))), kvsN_at (n := n) (by omega) (by omega)]
def rRepS : R2 := fun x y H Q => ∃ z n, x = .str z ∧ y = .int n ∧ MulOk z n ∧ Q (.str (Txt.mul z n)) H
theorem op_repS {X : Cx} : OpR X (binaryOp .Mult) rRepS := by
  intro pins s σ H x y v u Q I rx ry h
  obtain ⟨z, n, rfl, rfl, hm, q⟩ := h
  obtain ⟨t, rfl⟩ := rx
  obtain ⟨t', rfl⟩ := ry
  exact SB.mul hm fun t' k => ⟨.str _, H, I.tok _, ⟨_, rfl⟩, q⟩
/-! ### slices, sums and tests as data -/
section
variable {K : PySem.W.Frag} {σ : L2.St} {H : Hp} {ta tb te ti : TE} {d e : PyData} {ds : List PyData} {k : Nat}
theorem Dts.take {H : Hp} : ∀ {vs : List V} {ds : List PyData} (n : Nat), Dts H vs ds → Dts H (vs.take n) (ds.take n)
  | _, _, 0, _ => .nil
  | _, _, n + 1, .nil => .nil
  | _, _, n + 1, .cons a b => .cons a (Dts.take n b)
theorem Dts.drop {H : Hp} : ∀ {vs : List V} {ds : List PyData} (n : Nat), Dts H vs ds → Dts H (vs.drop n) (ds.drop n)
  | _, _, 0, h => h
  | _, _, n + 1, .nil => .nil
  | _, _, n + 1, .cons _ b => Dts.drop n b
theorem d_to (h : EvD te σ H (.list ds)) (hi : EvD ti σ H (.int (k : Nat))) : EvD (tSl (rSlL K) te tNoPart (tPart ti)) σ H (.list (ds.take k)) := fun H1 e1 Q q =>
  h H1 e1 _ fun v H2 e2 hv => hi H2 (e1.trans e2) _ fun w H3 e3 hw => by
    cases hw
    obtain ⟨a, xs, rfl, ha, hx⟩ := hv.list
    refine ⟨_, rfl, _, _, rfl, .inl (.inl (e3 _ _ ha)), fun p hp => ?_⟩
    rw [cut_to]
    exact q _ _ (Same.new (e2.trans e3) hp) (.lst upd_same (((hx.take k).same e3).same (same_new hp)))
theorem d_from (h : EvD te σ H (.list ds)) (hi : EvD ti σ H (.int (k : Nat))) : EvD (tSl (rSlL K) te (tPart ti) tNoPart) σ H (.list (ds.drop k)) := fun H1 e1 Q q =>
  h H1 e1 _ fun v H2 e2 hv => hi H2 (e1.trans e2) _ fun w H3 e3 hw => by
    cases hw
    obtain ⟨a, xs, rfl, ha, hx⟩ := hv.list
    refine ⟨_, rfl, _, _, rfl, .inl (.inl (e3 _ _ ha)), fun p hp => ?_⟩
    rw [cut_from]
    exact q _ _ (Same.new (e2.trans e3) hp) (.lst upd_same (((hx.drop k).same e3).same (same_new hp)))
theorem d_add {i j : Int} (ha : EvD ta σ H (.int i)) (hb : EvD tb σ H (.int j)) : EvD (tOp (rI0 fun i j => .int (i + j)) ta tb) σ H (.int (i + j)) := fun H1 e1 Q q =>
  ha H1 e1 _ fun v H2 e2 hv => hb H2 (e1.trans e2) _ fun w H3 e3 hw => by
    cases hv
    cases hw
    exact ⟨_, _, rfl, rfl, q _ _ (e2.trans e3) (.int _)⟩
theorem d_succ (ha : EvD ta σ H (.int (k : Nat))) : EvD (tOp (rI0 fun i j => .int (i + j)) ta (tC (.int 1))) σ H (.int ((k + 1 : Nat) : Int)) := d_add ha d_int
theorem d_at (h : EvD te σ H (.list ds)) (hi : EvD ti σ H (.int (k : Nat))) (hd : ds[k]? = some d) : EvD (tOp (rIxL K) te ti) σ H d := fun H1 e1 Q q =>
  h H1 e1 _ fun v H2 e2 hv => hi H2 (e1.trans e2) _ fun w H3 e3 hw => by
    cases hw
    obtain ⟨a, xs, rfl, ha, hx⟩ := hv.list
    obtain ⟨x, hx1, hx2⟩ := (hx.same e3).get hd
    exact ⟨_, _, _, _, rfl, rfl, .inl (.inl (e3 _ _ ha)), atI_nat hx1, q _ _ (e2.trans e3) hx2⟩
theorem d_join {y : Str} {zs : List Str} (h : EvD te σ H (.list (zs.map .str))) (hl : (zs.map (·.length)).sum + zs.length * y.length ≤ 16777216) : EvD (tM1 (rJoin K) (tC (.str y)) te) σ H (.str (Txt.join y zs)) := fun H1 e1 Q q =>
  ⟨⟨_, rfl⟩, h H1 e1 _ fun v H2 e2 hv => by
    obtain ⟨a, xs, rfl, ha, hx⟩ := hv.list
    obtain rfl := hx.strs
    exact ⟨_, _, _, rfl, rfl, .inl (.inl ha), hl, q _ _ e2 (.str _)⟩⟩
theorem d_rep {i : Int} (h : EvD te σ H (.list ds)) (hi : EvD ti σ H (.int i)) (h1 : ds.length * i.toNat ≤ 1000) (h2 : -(2 ^ 63) ≤ i) (h3 : i < 2 ^ 63) : EvD (tOp rRep te ti) σ H (.list (List.replicate i.toNat ds).flatten) := fun H1 e1 Q q =>
  h H1 e1 _ fun v H2 e2 hv => hi H2 (e1.trans e2) _ fun w H3 e3 hw => by
    cases hw
    cases hv with
    | lst ha hx =>
      refine ⟨_, _, _, rfl, rfl, e3 _ _ ha, h2, h3, Nat.le_of_lt (small1000 (by rw [hx.len]; exact h1)), fun p hp => ?_⟩
      refine q _ _ (Same.new (e2.trans e3) hp) (.lst upd_same ?_)
      have r : ∀ n : Nat, Dts H3 (List.replicate n _).flatten (List.replicate n ds).flatten := fun n => by
        induction n with
        | zero => exact .nil
        | succ n ih =>
          rw [List.replicate_succ, List.replicate_succ, List.flatten_cons, List.flatten_cons]
          exact (hx.same e3).app ih
      exact (r _).same (same_new hp)
theorem d_eqI {i j : Int} (ha : EvD ta σ H (.int i)) (hb : EvD tb σ H (.int j)) : EvD (tOp rEq ta tb) σ H (.bool (decide (i = j))) := fun H1 e1 Q q =>
  ha H1 e1 _ fun v H2 e2 hv => hb H2 (e1.trans e2) _ fun w H3 e3 hw => by
    cases hv
    cases hw
    refine ⟨rfl, ?_⟩
    rw [show decide (V.int i = V.int j) = decide (i = j) from decide_eq_decide.mpr ⟨fun z => V.int.inj z, fun z => by rw [z]⟩]
    exact q _ _ (e2.trans e3) (.bl _)
theorem d_intB {b : Bool} (h : EvD te σ H (.bool b)) : EvD (tCB rIntB (tCons te tNil)) σ H (.int (if b then 1 else 0)) := fun H1 e1 Q q =>
  h H1 e1 _ fun v H2 e2 hv => by
    cases hv
    exact ⟨_, rfl, q _ _ e2 (.int _)⟩
theorem if_lt {i : Nat} {z n : Int} {a b : TS} {D : Ends} (h : σ[i]? = some (some (.int z))) (h1 : z < n → a D σ H) (h2 : ¬ z < n → b D σ H) : tIfS (tTest (tOp (rI0 fun i j => .bl (decide (i < j))) (tVar i) (tC (.int n)))) a b D σ H :=
  ⟨_, h, _, _, rfl, rfl, _, rfl, ite2 (fun k => h1 (of_decide_eq_true k)) (fun k => h2 fun z => k (decide_eq_true z))⟩
theorem if_eq {i : Nat} {z n : Int} {a b : TS} {D : Ends} (h : σ[i]? = some (some (.int z))) (h1 : z = n → a D σ H) (h2 : ¬ z = n → b D σ H) : tIfS (tTest (tOp rEq (tVar i) (tC (.int n)))) a b D σ H :=
  ⟨_, h, rfl, _, rfl, ite2 (fun k => h1 (V.int.inj (of_decide_eq_true k))) (fun k => h2 fun z => k (decide_eq_true (by rw [z])))⟩
end
/-! ### int of a text; comprehensions that draw -/
def rIntS : List V → Hp → VK → Prop := fun xs H Q => ∃ a n, xs = [.str a] ∧ PySem.intText? a = some n ∧ a.length ≤ 640 ∧ Q (.int n) H
theorem call_intS {X : Cx} : CallR X (.type "int") rIntS := call_int_str
theorem nS_int : ∀ i : Nat, i < 100 → PySem.intText? (nS (i : Int)) = some (i : Int) := by decide +kernel
theorem But.del {p D : Addr} {H H' : Hp} (e : But p H H') (hp : H p ≠ none) (h : p ≠ D) : But p (del H D) (del H' D) := ⟨fun b o hb n => by
  by_cases z : b = D
  · rw [z, del_same] at hb
    cases hb
  · rw [del_ne z] at hb ⊢
    exact e.1 b o hb n, fun hn => by
  rw [del_ne h]
  exact e.2 hp⟩
section
variable {g : TG} {tt : TT} {te : TE} {vs : List Nat} {σ : L2.St} {H : Hp} {Q : VK}
theorem lcg_pen {p c : Addr} {t m n : Nat} (hP : PenOk H p c t) (hn : n < 100000) (good : PyData → Prop)
    (hs : ∀ D i H', i < n → But p H H' → PenOk H' p c (t + m * i) → H' D ≠ none → p ≠ D → ∀ (R1 : V → Hp → Prop) (R0 : Hp → Prop), (∀ v d H'', good d → But p H' H'' → PenOk H'' p c (t + m * (i + 1)) → Dt (del H'' D) v d → R1 v H'') →
      g (.int (0 + (i : Int))) (wipe σ vs) H' fun σ2 H2 => wipe σ2 vs = wipe σ vs ∧ tt σ2 H2 fun b H3 => if b = true then te σ2 H3 R1 else R0 H3)
    (hd : ∀ D H' ds, H D = none → ds.length = n → (∀ d ∈ ds, good d) → But p H H' → PenOk H' p c (t + m * n) → Dt H' (.ref D) (.list ds) → Q (.ref D) H') : LcG (Itr 0 n) g tt te vs σ H Q := by
  obtain ⟨kv0, hp0⟩ := hP.dict
  refine lcg_by (jseq_rng 0 n) (fun D i acc H' => But p H H' ∧ PenOk H' p c (t + m * i) ∧ H' D = some (.lst acc) ∧ acc.length = i ∧ ∃ ds : List PyData, ds.length = i ∧ (∀ d ∈ ds, good d) ∧ Dts (del H' D) acc ds)
    (fun D hD => ⟨But.of (same_new hD), (hP.same (same_new hD)).mono (by omega), upd_same, rfl, [], rfl, (fun _ h => nomatch h), .nil⟩)
    (fun D i acc H' _ _ _ => trivial) (fun D i x acc H' hD hx q => ?_) (fun D acc H' hD q => ?_)
  · obtain ⟨b1, P1, h1, l1, ds, l2, gd, hds⟩ := q
    have hi : i < n := by
      have := (List.getElem?_eq_some_iff.mp hx).1
      rw [rngV_len] at this
      exact this
    obtain rfl : x = .int (0 + (i : Int)) := by rw [rngV_at hi] at hx; cases hx; rfl
    have npD : p ≠ D := fun z => by rw [← z, hp0] at hD; cases hD
    refine hs D i H' hi b1 P1 (by rw [h1]; intro z; cases z) npD _ _ (fun v d H'' hg b2 P2 hv => ?_)
    obtain ⟨kv1, hp1⟩ := P1.dict
    have h2 := b2.1 _ _ h1 npD.symm
    refine ⟨acc, h2, ?_, acc ++ [v], ?_, ?_, upd_same, by rw [List.length_append, l1]; rfl, ds ++ [d], by rw [List.length_append, l2]; rfl, fun x hx => ?_, ?_⟩
    · have big : 100000 ≤ sizeLine := by decide
      omega
    · exact (b1.trans b2).mut hD
    · obtain ⟨cells, tu, le, k1, k2, k3, k4, k5⟩ := P2.ex
      have nc : c ≠ D := fun z => by
        obtain ⟨_, _, _, _, k2', _⟩ := hP.ex
        rw [z, hD] at k2'
        cases k2'
      exact ⟨cells, tu, le, by rw [upd_ne npD]; exact k1, by rw [upd_ne nc]; exact k2, k3, k4, k5⟩
    · rcases List.mem_append.mp hx with hx | hx
      · exact gd x hx
      · rw [List.mem_singleton.mp hx]
        exact hg
    · rw [del_mut]
      exact (hds.but (kvs := kv1) (by rw [del_ne npD]; exact hp1) (b2.del (by rw [hp1]; intro z; cases z) npD)).app (.cons hv .nil)
  · obtain ⟨b1, P1, h1, l1, ds, l2, gd, hds⟩ := q
    rw [rngV_len] at l2 P1
    exact hd D H' ds hD l2 gd b1 P1 (.lst h1 (hds.same del_old))
end
end Fp

namespace Fp
open PySem PySem.Spec PyProof.Rows L2 ClX
local macro_rules | `(tactic| walk_at "rd") => `(tactic| simp only [tOst, tChain, rRep, cxK, cxKn, tRet, tRetN, rIntI, rIntB, rLenL, rListL, rListT, rAbs, tDisp, tPairs, tC, tCB, tCons, tNil, tSl, tVar, tNoPart, tPart, rSlL, tOp, tAsg, gName, tIfS, tDrop, tTest, tAnd, tOr, Evl.tCut, tNot, tB, rI0, rI, rIxL, rIxT, rIxD, tDGet, sDPut, tLst, tTup, tBM, tBM0, tPar, rAppend, rPopAt, rPop, rExtend, rTupL, tCall, tNext, rAll, rOwnIn, rOwn2, rCat, lc_iL, lc_iT, lc_iK, lc_iR, lc_iE, fr_iL, fr_iT, fr_iR, tYes, rIn, rEq, rNe, gTup, gCons, gNil, wipe, tMeth, tFld, sFld, tMake, tProp, tIf, tAndV, tOrV, tNotV, tTru, rIsi, rSum, tRevL, rU, tUn, rIxS, iEnum, if_true, if_false, Bool.false_eq_true, List.map_cons, List.map_nil, List.nil_append, List.append_nil, List.cons_append, List.getElem?_cons_zero, List.getElem?_cons_succ, Option.some.injEq, exists_and_left, exists_eq_left', exists_eq_left, List.cons.injEq, and_true, true_and, V.ref.injEq, V.int.injEq, V.str.injEq, V.bl.injEq, List.set_cons_zero, List.set_cons_succ])
def topS (i : Nat) : Stmt := PySem.Challenge.pw_foldplans_k21_tables_read.main.body.getD i (.Pass ⟨0, 0, 0, 0⟩)
section
variable {K : PySem.W.Frag} {P : Program} {w : World} {base : Heap} {mg : Str → Option Value} {aR aD C : Addr} {T : Nat → Addr}
abbrev s__law_pen : Stmt := topS 15
theorem sc__law_pen : FnScope ["script"] ["script"] (defScope s__law_pen) := ⟨rfl, rfl, rfl, by decide +kernel, rfl, by decide +kernel, by decide +kernel⟩
theorem ok_pen {f : Addr} {fd : FuncData} (F : Fun K "_law_pen" "_law_pen" s__law_pen f fd) (m_list : mg "list" = none) : FnOk P w K mg base CX0 1 f fd ["script"] (spPen K) := by
  refine F.ok sc__law_pen (fun vs H Q E h => ?_) (fun cdv A outer s H vs Q E hr h => ?_)
  · obtain ⟨a, ns, rfl, _⟩ := h
    rfl
  · obtain ⟨a, ns, rfl, hS, hlen, q⟩ := h
    refine ⟨_, (pss_one (ps_ret (pe_disp (pps_cons pe_str (pe_callTy call_listL (by rfl) m_list (by decide +kernel) (pa_cons (pe_slice sl_list (pv 0) po_none (po_some pe_int)) pa_nil)) (pps_cons pe_str pe_int (pps_cons pe_str pe_int pps_nil))) rfl rfl (by simp) (by decide)))), ?_⟩
    show tRet _ _ [some (.ref a)] H
    walk_at "rd"
    intro p hp
    refine ⟨_, (same_new hp).seq hS, fun c hc => ⟨_, .inl (.inl upd_same), fun l hl => ⟨?_, penK l 0 0, rfl, (show 3 ≤ 15 by decide), ?_⟩⟩⟩
    · have h1 : p ≠ l := ne_of_none (show upd (upd H p (.dK [])) c _ p = some _ by rw [upd_ne (ne_of_none upd_same hc), upd_same]) hl
      rw [upd_ne h1, upd_ne (ne_of_none upd_same hc), upd_same]
    · refine q _ p l hp ?_ ⟨ns.take 63, 0, 0, upd_same, ?_, ?_, by decide, by decide⟩
      · exact Same.mut (Same.new (Same.new (same_new hp) hc) hl) hp
      · have h1 : p ≠ l := ne_of_none (show upd (upd H p (.dK [])) c _ p = some _ by rw [upd_ne (ne_of_none upd_same hc), upd_same]) hl
        rw [upd_ne h1.symm, upd_same, show (63 : Int) = ((63 : Nat) : Int) from rfl, cut_to, List.map_take]
      · rw [List.length_take]; omega
abbrev s__law_draw : Stmt := topS 16
theorem sc__law_draw : FnScope ["pen", "span", "digit", "turn", "cell", "mixed"] ["pen", "span"] (defScope s__law_draw) := ⟨rfl, rfl, rfl, by decide +kernel, rfl, by decide +kernel, by decide +kernel⟩
theorem ok_draw {f : Addr} {fd : FuncData} (F : Fun K "_law_draw" "_law_draw" s__law_draw f fd) (m_int : mg "int" = none) (m_len : mg "len" = none) (m_abs : mg "abs" = none) : FnOk P w K mg base CX0 1 f fd ["pen", "span"] spDraw := by
  refine F.ok sc__law_draw (fun vs H Q E h => ?_) (fun cdv A outer s H vs Q E hr h => ?_)
  · obtain ⟨p, c, span, t, rfl, _⟩ := h
    rfl
  · obtain ⟨p, c, span, t, rfl, hP, ht, hs0, hs1, q⟩ := h
    have hu := hu_of hr
    have hu64 := hr.units
    refine ⟨_, (pss_cons (ps_if (pt_cmpR op_gt (pe_dget hu (pv 0) pe_str (fun _ _ => rfl)) pe_int (nomark _))
      (pss_cons (ps_set (i := 2) sc__law_draw.nd rfl (.inl rfl) (pe_op op_mod (pe_callTy call_intI (by rfl) m_int (by decide +kernel) (pa_cons (pe_dget hu (pv 0) pe_str (fun _ _ => rfl)) pa_nil)) (pv 1)))
        (pss_cons (ps_dput hu (pv 0) pe_str (pe_op op_fdivW (pe_dget hu (pv 0) pe_str (fun _ _ => rfl)) (pv 1)) rfl)
        (pss_one (ps_ret (pv 2)))))
      pss_nil)
    (pss_cons (ps_set (i := 3) sc__law_draw.nd rfl (.inl rfl) (pe_dget hu (pv 0) pe_str (fun _ _ => rfl)))
    (pss_cons (ps_dput hu (pv 0) pe_str (pe_op op_add (pv 3) pe_int) rfl)
    (pss_cons (ps_set (i := 4) sc__law_draw.nd rfl (.inl rfl) (pe_op op_add (pe_op op_mul pe_int (pv 3)) pe_int))
    (Evl.pss_cut (ps_if (pt_cmpR (op_neD hu64) (pe_dget hu (pv 0) pe_str (fun _ _ => rfl)) (pe_lst pa_nil) (nomark _))
      (pss_one (ps_set (i := 4) sc__law_draw.nd rfl (.inl rfl) (pe_ix ix_list (pe_dget hu (pv 0) pe_str (fun _ _ => rfl)) (pe_op op_mod (pe_callTy call_intI (by rfl) m_int (by decide +kernel) (pa_cons (pv 3) pa_nil)) (pe_callB call_lenL (by rfl) m_len PySem.boot_len (pa_cons (pe_dget hu (pv 0) pe_str (fun _ _ => rfl)) pa_nil))) (fun _ _ => rfl))))
      pss_nil)
    (pss_cons (ps_if (PW.pt (pw_and (pt_cmpR op_lt (pv 3) (pe_callB call_lenL (by rfl) m_len PySem.boot_len (pa_cons (pe_dget hu (pv 0) pe_str (fun _ _ => rfl)) pa_nil)) (nomark _)) (pw_and1 (pt_cmpR op_ge (pe_callB call_absI (by rfl) m_abs (by decide +kernel) (pa_cons (pv 4) pa_nil)) (pe_op op_pow pe_int pe_int) (nomark _)))))
      (pss_cons (ps_dput hu (pv 0) pe_str (pe_op op_fdivW (pe_op op_sub (pe_callB call_absI (by rfl) m_abs (by decide +kernel) (pa_cons (pv 4) pa_nil)) (pe_op op_pow pe_int pe_int)) (pv 1)) rfl)
        (pss_one (ps_ret (pe_op op_mod (pe_callTy call_intI (by rfl) m_int (by decide +kernel) (pa_cons (pe_op op_sub (pe_callB call_absI (by rfl) m_abs (by decide +kernel) (pa_cons (pv 4) pa_nil)) (pe_op op_pow pe_int pe_int)) pa_nil)) (pv 1)))))
      pss_nil)
    (pss_cons (ps_set (i := 5) sc__law_draw.nd rfl (.inl rfl) (pe_op op_mul (pe_op op_mod (pe_callTy call_intI (by rfl) m_int (by decide +kernel) (pa_cons (pv 4) pa_nil)) pe_int) pe_int))
    (pss_cons (ps_set (i := 5) sc__law_draw.nd rfl (.inl rfl) (pe_op op_mod (pe_callTy call_intI (by rfl) m_int (by decide +kernel) (pa_cons (pe_op op_add (pe_op op_add (pv 5) (pe_op op_mul (pv 3) (pe_op op_add (pe_op op_mul (pv 3) pe_int) pe_int))) pe_int) pa_nil)) pe_int))
    (pss_cons (ps_set (i := 5) sc__law_draw.nd rfl (.inl rfl) (pe_op op_mod (pe_callTy call_intI (by rfl) m_int (by decide +kernel) (pa_cons (pe_op op_mul (pv 5) (pe_op op_add (pv 5) pe_int)) pa_nil)) pe_int))
    (pss_cons (ps_set (i := 5) sc__law_draw.nd rfl (.inl rfl) (pe_op op_mod (pe_callTy call_intI (by rfl) m_int (by decide +kernel) (pa_cons (pe_op op_add (pe_op op_add (pe_op op_mul (pv 5) (pv 5)) (pe_op op_mul pe_int (pv 5))) (pe_op op_mul pe_int (pv 3))) pa_nil)) pe_int))
    (pss_one (ps_ret (pe_op op_mod (pe_callTy call_intI (by rfl) m_int (by decide +kernel) (pa_cons (pe_op op_fdivW (pe_op op_mod (pe_callTy call_intI (by rfl) m_int (by decide +kernel) (pa_cons (pe_op op_mul (pv 5) (pe_op op_add (pv 5) pe_int)) pa_nil)) pe_int) pe_int) pa_nil)) (pv 1)))))))))))))), ?_⟩
    show tSeq _ _ _ [some (.ref p), some (.int span), none, none, none, none] H
    obtain ⟨cells, turn, left, h1, h2, h3, h4, h5⟩ := hP.ex
    have hmul : ∀ x : Int, 0 ≤ x → x < 4294967296 → ∀ y, CMul x y := fun x h0 h1 y => .inl ⟨by omega, by omega⟩
    refine seqi fun k hk => ?_
    walk_at "rd"
    refine dg_s h1 (pen_left _ _ _) ⟨_, rfl, ite2 (fun hl => ?_) (fun hl => ?_)⟩
    · refine seqi fun k hk => ?_
      walk_at "rd"
      refine dg_s h1 (pen_left _ _ _) ⟨_, rfl, hs0, ?_⟩
      subst hk
      refine seqi fun k hk => ?_
      walk_at "rd"
      refine dg_s h1 (pen_left _ _ _) ⟨_, rfl, ⟨hs0, hs1⟩, ?_⟩
      refine dp_s h1 (pen_len _ _ _) ?_
      rw [pen_putL]
      subst hk
      walk_at "rd"
      refine q _ _ (Int.emod_nonneg _ (by omega)) (Int.emod_lt_of_pos _ hs0) ⟨cells, turn, _, upd_same, ?_, h3, h4, by omega⟩ ⟨fun b o hb n => by rw [upd_ne n]; exact hb, fun _ => by rw [upd_same]; intro z; cases z⟩
      rw [upd_ne (ne_of h2 h1 (by intro z; cases z))]
      exact h2
    · subst hk
      refine seqi fun k hk => ?_
      walk_at "rd"
      refine dg_s h1 (pen_turn _ _ _) ?_
      subst hk
      refine seqi fun k hk => ?_
      walk_at "rd"
      refine dp_s h1 (pen_len _ _ _) ?_
      rw [pen_putT]
      have b1 : But p H (upd H p (.dK (penK c (turn + 1) left))) := ⟨fun b o hb n => by rw [upd_ne n]; exact hb, fun _ => by rw [upd_same]; intro z; cases z⟩
      have h1' : (upd H p (.dK (penK c (turn + 1) left))) p = some (.dK (penK c (turn + 1) left)) := upd_same
      have h2' : (upd H p (.dK (penK c (turn + 1) left))) c = some (.lst (cells.map V.int)) := by
        rw [upd_ne (ne_of h2 h1 (by intro z; cases z))]
        exact h2
      revert h1' h2' b1
      generalize (upd H p (.dK (penK c (turn + 1) left))) = H1
      intro b1 h1' h2'
      subst hk
      refine seqi fun k hk => ?_
      walk_at "rd"
      subst hk
      refine ⟨.inl ⟨by decide, by decide⟩, fun σ' H' => ∃ cell : Int, σ' = [some (.ref p), some (.int span), none, some (.int turn), some (.int cell), none] ∧ Same H1 H', ?_, ?_⟩
      · walk_at "rd"
        refine dg_s h1' (pen_cells _ _ _) ⟨Nat.zero_le _, fun d hd => ?_⟩
        have s2 : Same H1 (upd H1 d (.lst [])) := same_new hd
        have hc : SqL K (upd H1 d (.lst [])) c (cells.map V.int) := .inl (.inl (s2 _ _ h2'))
        refine ne_nil hc (dp_ints _ _ _) (shaped_ints _) upd_same ⟨_, rfl, ite2 (fun hn => ?_) (fun hn => ?_)⟩
        · have h0 : cells ≠ [] := fun z => by
            subst z
            exact absurd hn (by decide)
          obtain ⟨v, hv⟩ := ix_mod (ns := cells) (t := turn) h0
          have hl0 : (0 : Int) < ((cells.map V.int).length : Nat) := by
            rw [List.length_map]
            cases cells with
            | nil => exact absurd rfl h0
            | cons x r => show (0 : Int) < ((r.length + 1 : Nat) : Int); omega
          exact dg_s (s2 _ _ h1') (pen_cells _ _ _) (dg_s (s2 _ _ h1') (pen_cells _ _ _) ⟨_, rfl, _, hc, hl0, _, rfl, _, hc, _, hv, _, rfl, s2⟩)
        · exact s2
      · rintro σ' H2 ⟨cell, rfl, s2⟩
        have h1'' := s2 _ _ h1'
        have h2'' := s2 _ _ h2'
        have b2 : But p H H2 := b1.trans (But.of s2)
        refine seqi fun k hk => ?_
        have go : k [some (V.ref p), some (V.int span), none, some (V.int turn), some (V.int cell), none] H2 := by
          subst hk
          refine seqi fun k hk => ?_
          walk_at "rd"
          refine ⟨by decide, .inr ⟨by decide, by decide⟩, ?_⟩
          subst hk
          refine seqi fun k hk => ?_
          walk_at "rd"
          refine ⟨.inr ⟨by decide, by decide⟩, .inl ⟨by omega, by omega⟩, by decide, ?_⟩
          generalize hm : (_ : Int) % 4294967029 = m
          have m0 : 0 ≤ m := by rw [← hm]; exact Int.emod_nonneg _ (by decide)
          have m1 : m < 4294967296 := by have := Int.emod_lt_of_pos (cell % 4294967087 * 48611 + turn * (turn * 27919 + 10601) + 41) (show (0 : Int) < 4294967029 by decide); omega
          clear hm
          subst hk
          refine seqi fun k hk => ?_
          walk_at "rd"
          refine ⟨hmul _ m0 m1 _, by decide, ?_⟩
          obtain ⟨m2, hm2⟩ : ∃ m2, m * (m + 75013) % 4294966997 = m2 := ⟨_, rfl⟩
          have m3 : 0 ≤ m2 := by rw [← hm2]; exact Int.emod_nonneg _ (by decide)
          have m4 : m2 < 4294967296 := by have := Int.emod_lt_of_pos (m * (m + 75013)) (show (0 : Int) < 4294966997 by decide); omega
          rw [hm2]
          subst hk
          refine seqi fun k hk => ?_
          walk_at "rd"
          refine ⟨hmul _ m3 m4 _, .inl ⟨by decide, by decide⟩, .inl ⟨by decide, by decide⟩, by decide, ?_⟩
          obtain ⟨m5, hm5⟩ : ∃ m5, (m2 * m2 + 30427 * m2 + 19 * turn) % 4294966981 = m5 := ⟨_, rfl⟩
          have m6 : 0 ≤ m5 := by rw [← hm5]; exact Int.emod_nonneg _ (by decide)
          have m7 : m5 < 4294967296 := by have := Int.emod_lt_of_pos (m2 * m2 + 30427 * m2 + 19 * turn) (show (0 : Int) < 4294966981 by decide); omega
          rw [hm5]
          subst hk
          walk_at "rd"
          refine ⟨hmul _ m6 m7 _, by decide, ⟨by decide, by decide⟩, hs0, ?_⟩
          exact q _ _ (Int.emod_nonneg _ (by omega)) (Int.emod_lt_of_pos _ hs0) ⟨cells, turn + 1, left, h1'', h2'', h3, by omega, by omega⟩ b2
        walk_at "rd"
        refine dg_s h1'' (pen_cells _ _ _) ⟨_, rfl, _, .inl (.inl h2''), ite2 (fun ht => ?_) (fun ht => go)⟩
        refine ⟨⟨by decide, by decide, by decide⟩, ite2 (fun hge => ?_) (fun hge => go)⟩
        clear go
        refine seqi fun k2 hk2 => ?_
        walk_at "rd"
        refine ⟨⟨by decide, by decide, by decide⟩, ⟨hs0, hs1⟩, dp_s h1'' (pen_len _ _ _) ?_⟩
        rw [pen_putL]
        subst hk2
        walk_at "rd"
        refine ⟨⟨by decide, by decide, by decide⟩, hs0, ?_⟩
        refine q _ _ (Int.emod_nonneg _ (by omega)) (Int.emod_lt_of_pos _ hs0) ⟨cells, turn + 1, _, upd_same, ?_, h3, by omega, by omega⟩ (b2.trans ⟨fun b o hb n => by rw [upd_ne n]; exact hb, fun _ => by rw [upd_same]; intro z; cases z⟩)
        rw [upd_ne (ne_of h2'' h1'' (by intro z; cases z))]
        exact h2''
abbrev s__law_pick : Stmt := topS 17
theorem sc__law_pick : FnScope ["pen", "options"] ["pen", "options"] (defScope s__law_pick) := ⟨rfl, rfl, rfl, by decide +kernel, rfl, by decide +kernel, by decide +kernel⟩
theorem ok_pick {f : Addr} {fd : FuncData} (F : Fun K "_law_pick" "_law_pick" s__law_pick f fd) (D_law_draw : Dn P w K mg base 1 "_law_draw" ["pen", "span"] spDraw) (m_len : mg "len" = none) : FnOk P w K mg base CX0 2 f fd ["pen", "options"] spPick := by
  refine F.ok sc__law_pick (fun vs H Q E h => ?_) (fun cdv A outer s H vs Q E hr h => ?_)
  · obtain ⟨p, c, o, t, ds, rfl, _⟩ := h
    rfl
  · obtain ⟨p, c, o, t, ds, rfl, hP, ht, ho, h0, hl, q⟩ := h
    obtain ⟨ao, xs, rfl, hao, hxs⟩ := ho.list
    obtain ⟨kvs, hpk⟩ := hP.dict
    refine ⟨_, (pss_one (ps_ret (pe_ix (ix_listK K) (pv 1) (pd D_law_draw (hr.mono (by decide)) (by rfl) (pa_cons (pv 0) (pa_cons (pe_callB (call_lenK K) (by rfl) m_len PySem.boot_len (pa_cons (pv 1) pa_nil)) pa_nil))) (fun _ _ => rfl)))), ?_⟩
    show tRet _ _ [some (.ref p), some (.ref ao)] H
    have lx := hxs.len
    walk_at "rd"
    refine ⟨_, .inl (.inl hao), p, c, _, t, rfl, hP, by omega, by omega, lg_small (by omega), fun r H2 r0 r1 P2 b2 => ?_⟩
    obtain ⟨j, rfl⟩ : ∃ j : Nat, r = j := ⟨r.toNat, by omega⟩
    have hj : j < ds.length := by omega
    obtain ⟨v, hv, hd⟩ := hxs.get (List.getElem?_eq_getElem hj)
    exact ⟨_, _, rfl, .inl (.inl (b2.1 _ _ hao (ne_of hao hpk (by intro z; cases z)))), _, atI_nat (j := j) hv, q _ _ _ (List.getElem_mem hj) (hd.but hpk b2) P2 b2⟩
end
section
variable {K : PySem.W.Frag} {P : Program} {w : World} {base : Heap} {mg : Str → Option Value} {C FE CT CV CS : Addr}
abbrev s_BadTable___init__ : Stmt := inClass (topS 4) 0
theorem sc_BadTable___init__ : FnScope ["self", "line"] ["self", "line"] (defScope s_BadTable___init__) := ⟨rfl, rfl, rfl, by decide +kernel, rfl, by decide +kernel, by decide +kernel⟩
theorem ok_BadTable {f : Addr} {fd : FuncData} (F : Fun K "__init__" "BadTable.__init__" s_BadTable___init__ f fd) (e : EC K FE C) (nf : PySem.W.findIn K (.ref C) "line" = some none) : FnOk P w K mg base CX0 1 f fd ["self", "line"] (spIN C "line") := by
  refine F.ok sc_BadTable___init__ (fun vs H Q E h => ?_) (fun cdv A outer s H vs Q E hr h => ?_)
  · obtain ⟨a, v, rfl, _⟩ := h
    rfl
  · obtain ⟨a, v, rfl, ha, q⟩ := h
    exact ⟨_, (pss_one (ps_ostK (K := K) (pv 0) (pv 1) rfl)), iniN e nf ha q⟩
abbrev s_BadValue___init__ : Stmt := inClass (topS 5) 0
theorem sc_BadValue___init__ : FnScope ["self", "value"] ["self", "value"] (defScope s_BadValue___init__) := ⟨rfl, rfl, rfl, by decide +kernel, rfl, by decide +kernel, by decide +kernel⟩
theorem ok_BadValue {f : Addr} {fd : FuncData} (F : Fun K "__init__" "BadValue.__init__" s_BadValue___init__ f fd) (e : EC K FE C) (nf : PySem.W.findIn K (.ref C) "value" = some none) : FnOk P w K mg base CX0 1 f fd ["self", "value"] (spIN C "value") := by
  refine F.ok sc_BadValue___init__ (fun vs H Q E h => ?_) (fun cdv A outer s H vs Q E hr h => ?_)
  · obtain ⟨a, v, rfl, _⟩ := h
    rfl
  · obtain ⟨a, v, rfl, ha, q⟩ := h
    exact ⟨_, (pss_one (ps_ostK (K := K) (pv 0) (pv 1) rfl)), iniN e nf ha q⟩
abbrev s_BadSize___init__ : Stmt := inClass (topS 6) 0
theorem sc_BadSize___init__ : FnScope ["self", "size"] ["self", "size"] (defScope s_BadSize___init__) := ⟨rfl, rfl, rfl, by decide +kernel, rfl, by decide +kernel, by decide +kernel⟩
theorem ok_BadSize {f : Addr} {fd : FuncData} (F : Fun K "__init__" "BadSize.__init__" s_BadSize___init__ f fd) (e : EC K FE C) (nf : PySem.W.findIn K (.ref C) "size" = some none) : FnOk P w K mg base CX0 1 f fd ["self", "size"] (spIN C "size") := by
  refine F.ok sc_BadSize___init__ (fun vs H Q E h => ?_) (fun cdv A outer s H vs Q E hr h => ?_)
  · obtain ⟨a, v, rfl, _⟩ := h
    rfl
  · obtain ⟨a, v, rfl, ha, q⟩ := h
    exact ⟨_, (pss_one (ps_ostK (K := K) (pv 0) (pv 1) rfl)), iniN e nf ha q⟩

abbrev s__check_values : Stmt := topS 11
theorem sc__check_values : FnScope ["values", "size", "value"] ["values", "size"] (defScope s__check_values) := ⟨rfl, rfl, rfl, by decide +kernel, rfl, by decide +kernel, by decide +kernel⟩
theorem ok_check {f : Addr} {fd : FuncData} (F : Fun K "_check_values" "_check_values" s__check_values f fd) (m_isinstance : mg "isinstance" = none) (m_int : mg "int" = none) (m_bool : mg "bool" = none) (m_BadValue : mg "BadValue" = some (.ref CV)) (M : Xe P w K mg base CV "value") :
    FnOk P w K mg base (L2.CX P w) 3 f fd ["values", "size"] (spCk K CV) := by
  refine F.okX sc__check_values (fun vs H Q E h => ?_) (fun cdv A outer s H vs Q E hr h => ?_)
  · obtain ⟨l, zs, n, rfl, _⟩ := h
    rfl
  · obtain ⟨l, zs, n, rfl, hl, q, qe⟩ := h
    refine ⟨_, (pss_one (ps_for (passes_of rfl) rfl (pi_listK K (pv 0)) (pg_name (i := 2) sc__check_values.nd rfl (.inl rfl))
      (pss_one (ps_if (PW.pt (pw_or (pt_not (pt_val (pe_callB (call_isi1 (K := K)) (by rfl) m_isinstance (by decide +kernel) (pa_cons (pv 2) (pa_cons (pe_bltn (v := .ty "int") rfl m_int (by decide +kernel) rfl) pa_nil))))) (pw_or (pt_val (pe_callB (call_isi1 (K := K)) (by rfl) m_isinstance (by decide +kernel) (pa_cons (pv 2) (pa_cons (pe_bltn (v := .ty "bool") rfl m_bool (by decide +kernel) rfl) pa_nil)))) (pw_or1 (pt_not (pt_chain op_le op_lt pe_int (pv 2) (pv 1)))))))
      (pss_one (ps_raiseN M hr (by rfl) m_BadValue rfl (takes_of rfl rfl rfl rfl) (pv 2)))
      pss_nil)))), ?_⟩
    show tFor _ _ _ _ [some (.ref l), some (.int n), none] H
    walk_at "rd"
    refine ⟨⟨_, hl⟩, ?_⟩
    refine forg_by (jseq_list K _ _) (fun i σ' H' => (∃ y, σ' = [some (.ref l), some (.int n), y]) ∧ H' = H ∧ ∀ (j : Nat) (y : Int), j < i → zs[j]? = some y → OkV n y) ⟨⟨none, rfl⟩, rfl, fun j y h => absurd h (Nat.not_lt_zero j)⟩ (fun i σ' H' _ h => by obtain ⟨_, rfl, _⟩ := h; exact hl) (fun i x σ' H' hx h => ?_) (fun σ' H' h => ?_)
    · obtain ⟨⟨y, rfl⟩, rfl, hok⟩ := h
      rw [List.getElem?_map] at hx
      obtain ⟨z, hz, rfl⟩ := Option.map_eq_some_iff.mp hx
      walk_at "rd"
      refine ⟨_, _, ⟨rfl, rfl⟩, .type "int", .type "int", .ty _, .base (.int _), true, kit_ty (by decide +kernel), iteF ?_⟩
      refine ⟨_, _, ⟨rfl, rfl⟩, .type "int", .type "bool", .ty _, .base (.int _), false, kit_ty (by decide +kernel), iteF ?_⟩
      by_cases h0 : 0 ≤ z
      · rw [decide_eq_true h0]
        refine iteT ?_
        by_cases hn : z < n
        · rw [decide_eq_true hn]
          refine iteF ⟨⟨_, rfl⟩, fun j y hj hy => ?_⟩
          rcases Nat.lt_succ_iff_lt_or_eq.mp hj with hj | rfl
          · exact hok j y hj hy
          · rw [hz] at hy
            cases hy
            exact ⟨h0, hn⟩
        · rw [decide_eq_false hn]
          exact iteT (raise_var rfl (qe i z hz (fun o => hn o.2) hok))
      · rw [decide_eq_false h0]
        exact iteF (iteT (raise_var rfl (qe i z hz (fun o => h0 o.1) hok)))
    · obtain ⟨⟨y, rfl⟩, rfl, hok⟩ := h
      rw [List.length_map] at hok
      refine q fun z hz => ?_
      obtain ⟨j, hj, e⟩ := List.getElem_of_mem hz
      exact hok j z hj (by rw [List.getElem?_eq_getElem hj, e])
end
end Fp

namespace Fp
open PySem PySem.Spec PyProof.Rows L2 ClX
local macro_rules | `(tactic| walk_at "rd") => `(tactic| simp only [tOst, tChain, rRep, cxK, cxKn, tRet, tRetN, rIntI, rIntB, rLenL, rListL, rListT, rAbs, tDisp, tPairs, tC, tCB, tCons, tNil, tSl, tVar, tNoPart, tPart, rSlL, tOp, tAsg, gName, tIfS, tDrop, tTest, tAnd, tOr, Evl.tCut, tNot, tB, rI0, rI, rIxL, rIxT, rIxD, tDGet, sDPut, tLst, tTup, tBM, tBM0, tPar, rAppend, rPopAt, rPop, rExtend, rTupL, tCall, tNext, rAll, rOwnIn, rOwn2, rCat, lc_iL, lc_iT, lc_iK, lc_iR, lc_iE, fr_iL, fr_iT, fr_iR, tYes, rIn, rEq, rNe, gTup, gCons, gNil, wipe, tMeth, tFld, sFld, tMake, tProp, tIf, tAndV, tOrV, tNotV, tTru, rIsi, rSum, tRevL, rU, tUn, rIxS, iEnum, if_true, if_false, Bool.false_eq_true, List.map_cons, List.map_nil, List.nil_append, List.append_nil, List.cons_append, List.getElem?_cons_zero, List.getElem?_cons_succ, Option.some.injEq, exists_and_left, exists_eq_left', exists_eq_left, List.cons.injEq, and_true, true_and, V.ref.injEq, V.int.injEq, V.str.injEq, V.bl.injEq, List.set_cons_zero, List.set_cons_succ])
theorem flat_rep : ∀ m : Nat, (List.replicate m [V.int 0]).flatten = List.replicate m (V.int 0)
  | 0 => rfl
  | m + 1 => by
    rw [List.replicate_succ, List.flatten_cons, flat_rep m, List.replicate_succ]
    rfl
section
variable {K : PySem.W.Frag} {P : Program} {w : World} {base : Heap} {mg : Str → Option Value} {C FE CT CV CS : Addr}
abbrev s_Table___init__ : Stmt := inClass (topS 13) 0
theorem sc_Table___init__ : FnScope ["self", "size", "_"] ["self", "size"] (defScope s_Table___init__) := ⟨rfl, rfl, rfl, by decide +kernel, rfl, by decide +kernel, by decide +kernel⟩
theorem ok_tinit {f : Addr} {fd : FuncData} (F : Fun K "__init__" "Table.__init__" s_Table___init__ f fd) (TX : TxT K mg C) (tG : Tok) (m__GREATEST_SIZE : mg "_GREATEST_SIZE" = some (.int 60 tG)) (m_range : mg "range" = none) (m_BadSize : mg "BadSize" = some (.ref CS)) (M : Xe P w K mg base CS "size") :
    FnOk P w K mg base (L2.CX P w) 3 f fd ["self", "size"] (spTI C CS) := by
  refine F.okX sc_Table___init__ (fun vs H Q E h => ?_) (fun cdv A outer s H vs Q E hr h => ?_)
  · obtain ⟨p, dx, n, rfl, _⟩ := h
    rfl
  · obtain ⟨p, dx, n, rfl, hp, q, qe⟩ := h
    refine ⟨_, (pss_cons (ps_if (pt_not (pt_chain op_le op_le pe_int (pv 1) (pe_glob rfl m__GREATEST_SIZE (v := .int 60) ⟨_, rfl⟩)))
      (pss_one (ps_raiseN M hr (by rfl) m_BadSize rfl (takes_of rfl rfl rfl rfl) (pv 1)))
      pss_nil)
    (pss_cons (ps_fldK K (pv 0) (pv 1) rfl)
    (pss_one (ps_fldK K (pv 0) (pe_lc (own := [("_", 2)]) rfl sc_Table___init__.nd (pi_range1 rfl m_range (pa_cons (pv 1) pa_nil)) (blkOk_by (by kernel_rfl)) (fun _ _ _ _ _ => (pg_name (i := 2) sc_Table___init__.nd rfl (.inl rfl))) (fun _ _ _ _ _ => pts_nil) (fun _ _ _ _ _ => (pe_op op_rep (pe_lst (pa_cons pe_int pa_nil)) (pv 1)))) rfl)))), ?_⟩
    show tSeq _ _ _ [some (.ref p), some (.int n), none] H
    refine seqi fun k0 hk0 => ?_
    walk_at "rd"
    by_cases h1 : 1 ≤ n
    · rw [decide_eq_true h1]
      refine iteT ?_
      by_cases h2 : n ≤ 60
      · rw [decide_eq_true h2]
        refine iteF ?_
        subst hk0
        refine seqi fun k0 hk0 => ?_
        walk_at "rd"
        refine ⟨C, dx, [], hp, TX.cl, TX.nS, (by decide), ?_⟩
        generalize hH1 : upd H p (.ins C dx (putF ("size" : Str) (.int n) [])) = H1
        have h1p : H1 p = some (.ins C dx (putF ("size" : Str) (.int n) [])) := by rw [← hH1, upd_same]
        have h1b : ∀ b o, H b = some o → b ≠ p → H1 b = some o := fun b o hb ne => by
          rw [← hH1, upd_ne ne]
          exact hb
        subst hk0
        walk_at "rd"
        obtain ⟨m, rfl⟩ : ∃ m : Nat, n = (m : Int) := ⟨n.toNat, by omega⟩
        refine ⟨by omega, by omega, ?_⟩
        refine lcg_dt (jseq_rng 0 m) trivial (List.range m) (fun i => .int (0 + i)) (dts_rng m) (by rw [List.length_range]; omega) (fun _ => .list ((List.replicate m 0).map PyData.int)) (fun D z i hi hz H2 e2 hD2 S1 S0 s1 => ?_) (fun D3 H3 hD3 e3 hD => ?_)
        · obtain rfl := hz.num
          walk_at "rd"
          refine ⟨Nat.le_of_lt (small1000 (show 1 ≤ 1000 by decide)), fun l1 n1 => ⟨_, upd_same, by omega, by omega, ?_, fun l2 n2 => ?_⟩⟩
          · refine Nat.le_of_lt (small1000 ?_)
            show 1 * _ ≤ 1000
            omega
          · have e5 : (List.replicate (m : Int).toNat [V.int 0]).flatten = (List.replicate m (0 : Int)).map V.int := by
              rw [Int.toNat_natCast, List.map_replicate]
              exact flat_rep m
            rw [e5]
            have n2D : l2 ≠ D := fun z => by
              rw [z, upd_ne (fun w => hD2 (by rw [w]; exact n1))] at n2
              exact hD2 n2
            exact s1 _ _ ((same_new n1).trans (same_new n2)) (.lst (by rw [del_ne n2D, upd_same]) (dts_ints _))
        · refine ⟨C, dx, _, e3 _ _ h1p, TX.cl, TX.nR, (show 1 < 1000 by decide), ?_⟩
          have h3p := e3 _ _ h1p
          refine q (by omega) (by omega) _ (fun b o hb ne => ?_) ⟨.ref D3, upd_same, ?_⟩
          · rw [upd_ne ne]
            exact e3 _ _ (h1b b o hb ne)
          · have e4 : (List.range m).map (fun _ => PyData.list ((List.replicate m (0 : Int)).map PyData.int)) = (List.replicate m (List.replicate m (0 : Int))).map fun r => PyData.list (r.map PyData.int) := by
              simp only [List.map_const', List.length_range, List.map_replicate]
            rw [e4] at hD
            exact hD.ins h3p fun b o hb ne => by
              rw [upd_ne ne]
              exact hb
      · rw [decide_eq_false h2]
        exact iteT (raise_var rfl (qe fun h => h2 h.2))
    · rw [decide_eq_false h1]
      exact iteF (iteT (raise_var rfl (qe fun h => h1 h.1)))
end
end Fp

namespace Fp
open PySem PySem.Spec PyProof.Rows L2 ClX
local macro_rules | `(tactic| walk_at "rd") => `(tactic| simp only [tM1, rJoin, rSplit, rStrI, cxK, cxKn, tRet, tRetN, rIntI, rIntB, rLenL, rListL, rListT, rAbs, tDisp, tPairs, tC, tCB, tCons, tNil, tSl, tVar, tNoPart, tPart, rSlL, tOp, tAsg, gName, tIfS, tDrop, tTest, tAnd, tOr, Evl.tCut, tNot, tB, rI0, rI, rIxL, rIxT, rIxD, tDGet, sDPut, tLst, tTup, tBM, tBM0, tPar, rAppend, rPopAt, rPop, rExtend, rTupL, tCall, tNext, rAll, rOwnIn, rOwn2, rCat, lc_iL, lc_iT, lc_iK, lc_iR, lc_iE, fr_iL, fr_iT, fr_iR, tYes, rIn, rEq, rNe, gTup, gCons, gNil, wipe, tMeth, tFld, sFld, tMake, tProp, tIf, tAndV, tOrV, tNotV, tTru, rIsi, rSum, tRevL, rU, tUn, rIxS, iEnum, if_true, if_false, Bool.false_eq_true, List.map_cons, List.map_nil, List.nil_append, List.append_nil, List.cons_append, List.getElem?_cons_zero, List.getElem?_cons_succ, Option.some.injEq, exists_and_left, exists_eq_left', exists_eq_left, List.cons.injEq, and_true, true_and, V.ref.injEq, V.int.injEq, V.str.injEq, V.bl.injEq, List.set_cons_zero, List.set_cons_succ])
section
variable {K : PySem.W.Frag} {P : Program} {w : World} {base : Heap} {mg : Str → Option Value} {C FE CT CV CS : Addr}
abbrev s_table_of_rows : Stmt := topS 12
theorem sc_table_of_rows : FnScope ["rows", "table", "row"] ["rows"] (defScope s_table_of_rows) := ⟨rfl, rfl, rfl, by decide +kernel, rfl, by decide +kernel, by decide +kernel⟩
def spWR2 (C : Addr) : Sp := fun vs H Q _ => ∃ R E, vs = [R] ∧ Dt H R (mD E) ∧ 1 ≤ E.length ∧ E.length ≤ 60 ∧ ∀ (t dx : Addr) (R' : V) H', H t = none → Same H H' → H' t = some (.ins C dx (tFl (E.length : Nat) R')) → Dt H' R' (mD E) → Q (.ref t) H'
theorem ok_withrows {f : Addr} {fd : FuncData} {dvs : List V} (F : Fun K "table_of_rows" "table_of_rows" s_table_of_rows f fd) (TX : TxT K mg C) (m_len : mg "len" = none) (m_list : mg "list" = none) (N : Ke P w K mg base 3 C ["self", "size"] dvs (spTI C CS)) : FnOk P w K mg base CX0 5 f fd ["rows"] (spWR2 C) := by
  refine F.ok sc_table_of_rows (fun vs H Q E h => ?_) (fun cdv A outer s H vs Q E hr h => ?_)
  · obtain ⟨R, E, rfl, _⟩ := h
    rfl
  · obtain ⟨R, M, rfl, hR, h1, h60, q⟩ := h
    have m_Table := TX.mC
    refine ⟨_, (pss_cons (ps_set (i := 1) sc_table_of_rows.nd rfl (.inl rfl) (pke (E := E0) N (hr.mono (by decide)) (by rfl) m_Table passL (pa_cons (pe_callB (call_lenK K) (by rfl) m_len PySem.boot_len (pa_cons (pv 0) pa_nil)) pa_nil)))
    (pss_cons (ps_fldK K (pv 1) (pe_lc (own := [("row", 2)]) rfl sc_table_of_rows.nd (pi_listK K (pv 0)) (blkOk_by (by kernel_rfl)) (fun _ _ _ _ _ => (pg_name (i := 2) sc_table_of_rows.nd rfl (.inl rfl))) (fun _ _ _ _ _ => pts_nil) (fun _ _ _ _ _ => (pe_callTy (call_listK K) (by rfl) m_list (by decide +kernel) (pa_cons (pv 2) pa_nil)))) rfl)
    (pss_one (ps_ret (pv 1))))), ?_⟩
    show tSeq _ _ _ [some R, none, none] H
    obtain ⟨a, xs, rfl, ha, hx⟩ := hR.list
    have lx : xs.length = M.length := by rw [hx.len, List.length_map]
    refine seqi fun k0 hk0 => ?_
    walk_at "rd"
    refine ⟨_, .inl (.inl ha), ?_⟩
    rw [lx]
    intro x dx nx ndx ne
    have e2 : Same H (upd (upd H dx (.own x)) x (.ins C dx [])) := fun b o hb => by
      rw [upd_ne (ne_of_none hb nx), upd_ne (ne_of_none hb ndx)]
      exact hb
    refine ⟨x, dx, _, rfl, upd_same, fun _ _ H2 k2 ⟨R2, g1, g2⟩ => ⟨rfl, ?_⟩, fun hno => absurd ⟨by omega, by omega⟩ hno⟩
    have s2 : Same H H2 := fun b o hb => k2 b o (e2 _ _ hb) (ne_of_none hb nx)
    subst hk0
    refine seqi fun k0 hk0 => ?_
    walk_at "rd"
    refine ⟨⟨_, .inl (.inl (s2 _ _ ha))⟩, ?_⟩
    refine lcg_dt (jseq_list K _ _) (.inl (.inl (s2 _ _ ha))) M (fun r => .list (r.map .int)) (hx.same s2) (by omega) (fun r => .list (r.map .int)) (fun D6 z r hr hz H6 e6 hD6 S1 S0 t1 => ?_) (fun D6 H6 hD6 e6 hd6 => ?_)
    · obtain ⟨wd, ws, rfl, hwd, hws⟩ := hz.list
      obtain rfl := hws.ints
      walk_at "rd"
      refine ⟨_, .inl (.inl (e6 _ _ hwd)), fun l hl => ?_⟩
      exact t1 _ _ (same_new hl) (.lst (by rw [del_ne (fun z => hD6 (by rw [← z]; exact hl)), upd_same]) (dts_ints _))
    · have g1' := e6 _ _ g1
      refine ⟨C, dx, _, g1', TX.cl, TX.nR, (show 2 < 1000 by decide), ?_⟩
      subst hk0
      walk_at "rd"
      rw [tFl_put]
      exact q x dx (.ref D6) _ nx (Same.mut (s2.trans e6) nx) upd_same (Dt.ins g1' (fun b o hb ne => by rw [upd_ne ne]; exact hb) hd6)
abbrev s_Table___getitem__ : Stmt := inClass (topS 13) 3
theorem sc_Table___getitem__ : FnScope ["self", "at", "a", "b"] ["self", "at"] (defScope s_Table___getitem__) := ⟨rfl, rfl, rfl, by decide +kernel, rfl, by decide +kernel, by decide +kernel⟩
theorem ok_tget {f : Addr} {fd : FuncData} (F : Fun K "__getitem__" "Table.__getitem__" s_Table___getitem__ f fd) (TX : TxT K mg C) (D_check_values : De P w K mg base 3 "_check_values" ["values", "size"] (spCk K CV)) : FnOk P w K mg base (L2.CX P w) 4 f fd ["self", "at"] (spGet C CV) := by
  refine F.okX sc_Table___getitem__ (fun vs H Q E h => ?_) (fun cdv A outer s H vs Q E hr h => ?_)
  · obtain ⟨t, p, M, a, b, rfl, _⟩ := h
    rfl
  · obtain ⟨t, p, M, a, b, rfl, ⟨dx, R, g1, g2⟩, hM, hp, q, qe⟩ := h
    refine ⟨_, (pss_cons (ps_asg (pv 1) (pg_tupK K (pg_tup (n := 2) rfl (pgs_cons (pg_name (i := 2) sc_Table___getitem__.nd rfl (.inl rfl)) (pgs_cons (pg_name (i := 3) sc_Table___getitem__.nd rfl (.inl rfl)) pgs_nil)))))
    (pss_cons (ps_expr (pde (E := E) D_check_values (hr.mono (by decide)) (by rfl) (passes_call (takes_of rfl rfl rfl rfl) fun _ _ _ _ h => h) (pa_cons (pe_lst (pa_cons (pv 2) (pa_cons (pv 3) pa_nil))) (pa_cons (pe_fldK K (pv 0) rfl) pa_nil))))
    (pss_one (ps_ret (pe_ix (ix_listK K) (pe_ix (ix_listK K) (pe_fldK K (pv 0) rfl) (pv 2) (fun _ _ => rfl)) (pv 3) (fun _ _ => rfl)))))), ?_⟩
    show tSeq _ _ _ [some (.ref t), some (.ref p), none, none] H
    refine seqi fun k0 hk0 => ?_
    walk_at "rd"
    refine ⟨_, .inl (.inl hp), rfl, _, _, rfl, _, _, rfl, rfl, ?_⟩
    subst hk0
    refine seqi fun k0 hk0 => ?_
    walk_at "rd"
    refine ⟨Nat.le_of_lt (small1000 (show 2 ≤ 1000 by decide)), fun l1 n1 => ⟨C, dx, _, (by rw [upd_ne (ne_of_none g1 n1)]; exact g1), TX.cl, TX.nS, _, tFl_size _ _, ?_⟩⟩
    have s1 := same_new (o := HO.lst [V.int a, V.int b]) n1
    refine ⟨l1, [a, b], (M.length : Int), rfl, .inl (.inl upd_same), fun hall => ?_, fun i z hz hno hprev d H' nd s hx => ?_⟩
    · have oa := hall a (by simp)
      have ob := hall b (by simp)
      obtain ⟨ra, rs, rfl, hra, hrs⟩ := (g2.same s1).list
      obtain ⟨j, rfl⟩ : ∃ j : Nat, a = (j : Int) := ⟨a.toNat, by have := oa.1; omega⟩
      obtain ⟨k, rfl⟩ : ∃ k : Nat, b = (k : Int) := ⟨b.toNat, by have := ob.1; omega⟩
      have hj : j < M.length := by have := oa.2; omega
      have hrow : M[j]? = some M[j] := List.getElem?_eq_getElem hj
      have hkl : k < M[j].length := by
        rw [hM _ (List.getElem_mem hj)]
        have := ob.2
        omega
      obtain ⟨vr, hvr, hdr⟩ := hrs.get (i := j) (d := .list (M[j].map PyData.int)) (by rw [List.getElem?_map, hrow]; rfl)
      obtain ⟨rr, zs, rfl, hrr, hzs⟩ := hdr.list
      have e1 := hzs.ints
      obtain ⟨vz, hvz, hdz⟩ := hzs.get (i := k) (d := .int M[j][k]) (by rw [List.getElem?_map, List.getElem?_eq_getElem hkl]; rfl)
      obtain rfl := hdz.num
      subst hk0
      walk_at "rd"
      refine ⟨C, dx, _, s1 _ _ g1, TX.cl, TX.nR, _, tFl_rows _ _, ra, rfl, _, .inl (.inl hra), _, atI_nat hvr, rr, rfl, _, .inl (.inl hrr), _, atI_nat hvz, ?_⟩
      exact q M[j] _ _ oa ob hrow (by rw [Int.toNat_natCast]; exact List.getElem?_eq_getElem hkl) s1
    · have nd' : H d = none := by
        have n : d ≠ l1 := fun w => by rw [w, upd_same] at nd; cases nd
        rw [upd_ne n] at nd
        exact nd
      match i, hz, hprev with
      | 0, hz, _ =>
        cases hz
        exact qe _ (.inl ⟨hno, rfl⟩) d H' nd' (s1.trans s) hx
      | 1, hz, hprev =>
        cases hz
        exact qe _ (.inr ⟨hprev 0 a (by decide) rfl, hno, rfl⟩) d H' nd' (s1.trans s) hx
      | i + 2, hz, _ => cases hz
abbrev s_Table___str__ : Stmt := inClass (topS 13) 7
theorem sc_Table___str__ : FnScope ["self", "row", "entry"] ["self"] (defScope s_Table___str__) := ⟨rfl, rfl, rfl, by decide +kernel, rfl, by decide +kernel, by decide +kernel⟩
theorem ok_tstr {f : Addr} {fd : FuncData} (F : Fun K "__str__" "Table.__str__" s_Table___str__ f fd) (TX : TxT K mg C) (m_str : mg "str" = none) : FnOk P w K mg base CX0 1 f fd ["self"] (spTStr C) := by
  refine F.ok sc_Table___str__ (fun vs H Q E h => ?_) (fun cdv A outer s H vs Q E hr h => ?_)
  · obtain ⟨t, M, rfl, _⟩ := h
    rfl
  · obtain ⟨t, M, rfl, ⟨dx, R, g1, g2⟩, ok, q⟩ := h
    refine ⟨_, (pss_one (ps_ret (pe_joinK K pe_str (pe_lc (own := [("row", 1)]) rfl sc_Table___str__.nd (pi_listK K (pe_fldK K (pv 0) rfl)) (blkOk_by (by kernel_rfl)) (fun _ _ _ _ _ => (pg_name (i := 1) sc_Table___str__.nd rfl (.inl rfl))) (fun _ _ _ _ _ => pts_nil) (fun _ _ _ _ _ => (pe_joinK K pe_str (pe_lc (own := [("entry", 2)]) rfl sc_Table___str__.nd (pi_listK K (pv 1)) (blkOk_by (by kernel_rfl)) (fun _ _ _ _ _ => (pg_name (i := 2) sc_Table___str__.nd rfl (.inl rfl))) (fun _ _ _ _ _ => pts_nil) (fun _ _ _ _ _ => (pe_callTy call_strI (by rfl) m_str (by decide +kernel) (pa_cons (pv 2) pa_nil)))))))))), ?_⟩
    show tRet _ _ [some (.ref t), none, none] H
    walk_at "rd"
    obtain ⟨ra, rs, rfl, hra, hrs⟩ := g2.list
    refine ⟨⟨_, rfl⟩, C, dx, _, g1, TX.cl, TX.nR, _, tFl_rows _ _, ra, rfl, ⟨_, .inl (.inl hra)⟩, ?_⟩
    have lM : M.length < 100000 := by have := ok.1; omega
    refine lcg_dt (jseq_list K _ _) (.inl (.inl hra)) M (fun r => .list (r.map PyData.int)) hrs lM (fun r => .str (rowT r)) (fun D x r hr hx H1 e1 hD S1 S0 s1 => ?_) (fun D H1 hD e1 hd => ?_)
    · obtain ⟨rr, zs, rfl, hrr, hzs⟩ := hx.list
      obtain rfl := hzs.ints
      obtain ⟨hr1, hr2⟩ := ok.2 r hr
      walk_at "rd"
      refine ⟨⟨_, rfl⟩, ⟨_, .inl (.inl (e1 _ _ hrr))⟩, ?_⟩
      refine lcg_old (jseq_list K _ _) (.inl (.inl (e1 _ _ hrr))) r (fun z => .int z) (dts_ints r) (by omega) (fun _ => true) (fun z => .str (nS z)) (fun x z hz hx H2 e2 T1 T0 t1 t0 => ?_) (fun D2 H3 hD2 e3 hd => ?_)
      · obtain rfl := hx.num
        have oz := hr2 z hz
        walk_at "rd"
        refine ⟨?_, t1 rfl _ _ (Same.refl _) (.str _)⟩
        have h1 := oz.1
        have h2 := oz.2
        have := PySem.Flt.log2_lt_of (k := 20) (by decide) (show z.natAbs < 2 ^ 20 by omega)
        omega
      · rw [List.filter_eq_self.mpr (fun _ _ => rfl)] at hd
        obtain ⟨D2', ys, eD, hD2', hys⟩ := hd.list
        cases eD
        rw [show r.map (fun z => PyData.str (nS z)) = (r.map nS).map PyData.str by rw [List.map_map]; rfl] at hys
        obtain rfl := hys.strs
        refine ⟨D2, rfl, r.map nS, .inl (.inl hD2'), ?_, s1 _ _ e3 (.str _)⟩
        have h1 := sum_le (l := (r.map nS).map (·.length)) (b := 2) fun x hx => by
          obtain ⟨y, hy, rfl⟩ := List.mem_map.mp hx
          obtain ⟨z, hz, rfl⟩ := List.mem_map.mp hy
          exact nS_len (hr2 z hz)
        rw [List.length_map, List.length_map] at h1
        rw [List.length_map, show (" " : Str).length = 1 from rfl]
        omega
    · obtain ⟨D', ys, eD, hD', hys⟩ := hd.list
      cases eD
      rw [show M.map (fun r => PyData.str (rowT r)) = (M.map rowT).map PyData.str by rw [List.map_map]; rfl] at hys
      obtain rfl := hys.strs
      refine ⟨D, rfl, M.map rowT, .inl (.inl hD'), ?_, q _ e1⟩
      have h1 := sum_le (l := (M.map rowT).map (·.length)) (b := 192) fun x hx => by
        obtain ⟨y, hy, rfl⟩ := List.mem_map.mp hx
        obtain ⟨r, hr, rfl⟩ := List.mem_map.mp hy
        exact rowT_len (ok.2 r hr)
      rw [List.length_map, List.length_map] at h1
      rw [List.length_map, show ("\n" : Str).length = 1 from rfl]
      have := ok.1
      omega
end
end Fp

namespace Fp
open PySem PySem.Spec PyProof.Rows L2 ClX
local macro_rules | `(tactic| walk_at "rd") => `(tactic| simp only [rStrI, rSplit, tM1, tTru, tOst, tChain, rRep, cxK, cxKn, tRet, tRetN, rIntI, rIntB, rLenL, rListL, rListT, rAbs, tDisp, tPairs, tC, tCB, tCons, tNil, tSl, tVar, tNoPart, tPart, rSlL, tOp, tAsg, gName, tIfS, tDrop, tTest, tAnd, tOr, Evl.tCut, tNot, tB, rI0, rI, rIxL, rIxT, rIxD, tDGet, sDPut, tLst, tTup, tBM, tBM0, tPar, rAppend, rPopAt, rPop, rExtend, rTupL, tCall, tNext, rAll, rOwnIn, rOwn2, rCat, lc_iL, lc_iT, lc_iK, lc_iR, lc_iE, fr_iL, fr_iT, fr_iR, tYes, rIn, rEq, rNe, gTup, gCons, gNil, wipe, tMeth, tFld, sFld, tMake, tProp, tIf, tAndV, tOrV, tNotV, tTru, rIsi, rSum, tRevL, rU, tUn, rIxS, iEnum, if_true, if_false, Bool.false_eq_true, List.map_cons, List.map_nil, List.nil_append, List.append_nil, List.cons_append, List.getElem?_cons_zero, List.getElem?_cons_succ, Option.some.injEq, exists_and_left, exists_eq_left', exists_eq_left, List.cons.injEq, and_true, true_and, V.ref.injEq, V.int.injEq, V.str.injEq, V.bl.injEq, List.set_cons_zero, List.set_cons_succ])

/-- texts of lines -/
def spLines : Sp := fun vs H Q _ => ∃ t, vs = [.str t] ∧ t.length + 2 ≤ sizeLine ∧ ∀ D H', H D = none → Same H H' → H' D = some (.lst ((linesOf t).map V.str)) → Q (.ref D) H'
def spRows (C : Addr) : Sp := fun vs H Q _ => ∃ t M, vs = [.ref t] ∧ TbAt H C t M ∧ M.length ≤ 64 ∧ (∀ r ∈ M, r.length = M.length) ∧ ∀ D H', H D = none → Same H H' → Dt H' (.ref D) (mD M) → Q (.ref D) H'
/-- the number of the first wrong line, 0 for none -/
def firstW (ls : List Str) : Nat := match (List.range ls.length).find? (wrongB ls) with
  | some k => k + 1
  | none => if ls = [] then 1 else 0
def spWrong : Sp := fun vs H Q _ => ∃ v ls, vs = [v] ∧ Dt H v (.list (ls.map .str)) ∧ OkLs 70 6000 ls ∧ ∀ H', Same H H' → Q (.int (firstW ls : Nat)) H'
section
variable {K : PySem.W.Frag} {P : Program} {w : World} {base : Heap} {mg : Str → Option Value} {C FE CT CV CS : Addr}
abbrev s_lines_of : Stmt := topS 8
theorem sc_lines_of : FnScope ["text"] ["text"] (defScope s_lines_of) := ⟨rfl, rfl, rfl, by decide +kernel, rfl, by decide +kernel, by decide +kernel⟩
theorem ok_linesof {f : Addr} {fd : FuncData} (F : Fun K "lines_of" "lines_of" s_lines_of f fd) : FnOk P w K mg base CX0 1 f fd ["text"] spLines := by
  refine F.ok sc_lines_of (fun vs H Q E h => ?_) (fun cdv A outer s H vs Q E hr h => ?_)
  · obtain ⟨t, rfl, _⟩ := h
    rfl
  · obtain ⟨t, rfl, ht, q⟩ := h
    refine ⟨_, (pss_cons (ps_if (pt_not (pt_truthK (K := K) (pv 0)))
      (pss_one (ps_ret (pe_lst pa_nil)))
      pss_nil)
    (pss_one (ps_ret (pe_splitK (pv 0) pe_str)))), ?_⟩
    show tSeq _ _ _ [some (.str t)] H
    refine seqi fun k0 hk0 => ?_
    walk_at "rd"
    refine ⟨_, ⟨by omega, rfl⟩, ?_⟩
    by_cases hz : t.length = 0
    · have e : ((t.length : Int) != 0) = false := by rw [hz]; rfl
      rw [e]
      refine iteT ⟨Nat.zero_le _, fun l hl => q l _ hl (same_new hl) ?_⟩
      unfold linesOf
      rw [if_pos hz]
      exact upd_same
    · have e : ((t.length : Int) != 0) = true := bne_iff_ne.mpr (by omega)
      rw [e]
      refine iteF ?_
      subst hk0
      walk_at "rd"
      refine ⟨⟨_, rfl⟩, rfl, ht, fun l hl => q l _ hl (same_new hl) ?_⟩
      unfold linesOf
      rw [if_neg hz]
      exact upd_same
abbrev s__law_rows_of_table : Stmt := topS 18
theorem sc__law_rows_of_table : FnScope ["made", "a", "b"] ["made"] (defScope s__law_rows_of_table) := ⟨rfl, rfl, rfl, by decide +kernel, rfl, by decide +kernel, by decide +kernel⟩
theorem ok_rowsof {f : Addr} {fd : FuncData} (F : Fun K "_law_rows_of_table" "_law_rows_of_table" s__law_rows_of_table f fd) (TX : TxT K mg C) (m_range : mg "range" = none) (M_get : Ge P w K mg base 4 C ["self", "at"] (spGet C CV)) :
    FnOk P w K mg base CX0 6 f fd ["made"] (spRows C) := by
  refine F.ok sc__law_rows_of_table (fun vs H Q E h => ?_) (fun cdv A outer s H vs Q E hr h => ?_)
  · obtain ⟨t, M, rfl, _⟩ := h
    rfl
  · obtain ⟨t, M, rfl, ⟨dx, R, g1, g2⟩, hM, hsq, q⟩ := h
    refine ⟨_, (pss_one (ps_ret (pe_lc (own := [("a", 1)]) rfl sc__law_rows_of_table.nd (pi_range1 rfl m_range (pa_cons (pe_fldK K (pv 0) rfl) pa_nil)) (blkOk_by (by kernel_rfl)) (fun _ _ _ _ _ => (pg_name (i := 1) sc__law_rows_of_table.nd rfl (.inr rfl))) (fun _ _ _ _ _ => pts_nil) (fun _ _ _ _ _ => (pe_lc (own := [("b", 2)]) rfl sc__law_rows_of_table.nd (pi_range1 rfl m_range (pa_cons (pe_fldK K (pv 0) rfl) pa_nil)) (blkOk_by (by kernel_rfl)) (fun _ _ _ _ _ => (pg_name (i := 2) sc__law_rows_of_table.nd rfl (.inl rfl))) (fun _ _ _ _ _ => pts_nil) (fun _ _ _ _ _ => (pe_ixOwn (E := E0) M_get (hr.mono (by decide)) passL (pv 0) (pe_tup (pa_cons (pv 1) (pa_cons (pv 2) pa_nil))) (fun _ _ => rfl)))))))), ?_⟩
    show tRet _ _ [some (.ref t), none, none] H
    walk_at "rd"
    refine ⟨C, dx, _, g1, TX.cl, TX.nS, _, tFl_size _ _, _, rfl, by omega, by omega, ?_⟩
    refine lcg_dt (jseq_rng 0 M.length) trivial (List.range M.length) (fun i => .int (0 + i)) (dts_rng M.length) (by rw [List.length_range]; omega) (fun i => .list ((M.getD i []).map PyData.int)) (fun D z i hi hz H2 e2 hD2 S1 S0 s1 => ?_) (fun D3 H3 hD3 e3 hD => ?_)
    · obtain rfl := hz.num
      have hi : i < M.length := List.mem_range.mp hi
      have hrow : M[i]? = some M[i] := List.getElem?_eq_getElem hi
      have hgd : M.getD i [] = M[i] := by rw [List.getD_eq_getElem?_getD, hrow]; rfl
      walk_at "rd"
      refine ⟨C, dx, _, e2 _ _ g1, TX.cl, TX.nS, _, tFl_size _ _, _, rfl, by omega, by omega, ?_⟩
      refine lcg_old (jseq_rng 0 M.length) trivial (List.range M.length) (fun i => .int (0 + i)) (dts_rng M.length) (by rw [List.length_range]; omega) (fun _ => true) (fun j => .int (M[i].getD j 0)) (fun x j hj hx H4 e4 T1 T0 t1 t0 => ?_) (fun D2 H5 hD2' e5 hd => ?_)
      · obtain rfl := hx.num
        have hj : j < M.length := List.mem_range.mp hj
        have hjl : j < M[i].length := by rw [hsq _ (List.getElem_mem hi)]; exact hj
        walk_at "rd"
        refine ⟨Nat.le_of_lt (small1000 (show 2 ≤ 1000 by decide)), fun l1 n1 => ?_⟩
        have s0 : Same H (upd H4 l1 (.tup [.int (0 + (i : Int)), .int (0 + (j : Int))])) := (e2.trans e4).trans (same_new n1)
        refine ⟨t, dx, _, rfl, s0 _ _ g1, t, l1, M, _, _, rfl, ⟨dx, R, s0 _ _ g1, g2.same s0⟩, hsq, upd_same, fun r z H6 oa ob hr hz s6 => ?_, fun z hz => ?_⟩
        · rw [show (0 + (i : Int)).toNat = i by omega, hrow] at hr
          cases hr
          rw [show (0 + (j : Int)).toNat = j by omega, List.getElem?_eq_getElem hjl] at hz
          cases hz
          refine t1 rfl _ _ ((same_new n1).trans s6) ?_
          rw [List.getD_eq_getElem?_getD, List.getElem?_eq_getElem hjl]
          exact .int _
        · rcases hz with ⟨hno, _⟩ | ⟨_, hno, _⟩
          · exact absurd ⟨by omega, by omega⟩ hno
          · exact absurd ⟨by omega, by omega⟩ hno
      · have e6 : ((List.range M.length).filter fun _ => true).map (fun j => PyData.int (M[i].getD j 0)) = (M.getD i []).map PyData.int := by
          rw [List.filter_eq_self.mpr (fun _ _ => rfl), hgd, show (fun j => PyData.int (M[i].getD j 0)) = PyData.int ∘ (fun j => M[i].getD j 0) from rfl, ← List.map_map]
          congr 1
          refine List.ext_getElem (by rw [List.length_map, List.length_range, hsq _ (List.getElem_mem hi)]) fun n h1 h2 => ?_
          rw [List.getElem_map, List.getElem_range, List.getD_eq_getElem?_getD, List.getElem?_eq_getElem h2]
          rfl
        rw [e6] at hd
        have nD : D2 ≠ D := fun z => hD2 (by rw [← z]; exact hD2')
        obtain ⟨D2'', ys, eD, hD2'', hys⟩ := hd.list
        cases eD
        obtain rfl := hys.ints
        exact s1 _ _ e5 (.lst (by rw [del_ne nD]; exact hD2'') (dts_ints _))
    · have e7 : (List.range M.length).map (fun i => PyData.list ((M.getD i []).map PyData.int)) = M.map fun r => PyData.list (r.map PyData.int) := by
        refine List.ext_getElem (by simp) fun n h1 h2 => ?_
        rw [List.getElem_map, List.getElem_map, List.getElem_range, List.getD_eq_getElem?_getD, List.getElem?_eq_getElem (by simpa using h2)]
        rfl
      rw [e7] at hD
      exact q D3 H3 hD3 e3 hD
end
end Fp

namespace Fp
open PySem PySem.Spec PyProof.Rows L2 ClX
local macro_rules | `(tactic| walk_at "rd") => `(tactic| simp only [rStrI, rSplit, tM1, tTru, tOst, tChain, rRep, cxK, cxKn, tRet, tRetN, rIntI, rIntB, rLenL, rListL, rListT, rAbs, tDisp, tPairs, tC, tCB, tCons, tNil, tSl, tVar, tNoPart, tPart, rSlL, tOp, tAsg, gName, tIfS, tDrop, tTest, tAnd, tOr, Evl.tCut, tNot, tB, rI0, rI, rIxL, rIxT, rIxD, tDGet, sDPut, tLst, tTup, tBM, tBM0, tPar, rAppend, rPopAt, rPop, rExtend, rTupL, tCall, tNext, rAll, rOwnIn, rOwn2, rCat, lc_iL, lc_iT, lc_iK, lc_iR, lc_iE, fr_iL, fr_iT, fr_iR, tYes, rIn, rEq, rNe, gTup, gCons, gNil, wipe, tMeth, tFld, sFld, tMake, tProp, tIf, tAndV, tOrV, tNotV, tTru, rIsi, rSum, tRevL, rU, tUn, rIxS, iEnum, if_true, if_false, Bool.false_eq_true, List.map_cons, List.map_nil, List.nil_append, List.append_nil, List.cons_append, List.getElem?_cons_zero, List.getElem?_cons_succ, Option.some.injEq, exists_and_left, exists_eq_left', exists_eq_left, List.cons.injEq, and_true, true_and, V.ref.injEq, V.int.injEq, V.str.injEq, V.bl.injEq, List.set_cons_zero, List.set_cons_succ])

theorem firstW_at {ls : List Str} {i : Nat} (hi : i < ls.length) (h : wrongB ls i = true) (hno : ∀ j < i, wrongB ls j = false) : firstW ls = i + 1 := by
  unfold firstW
  rw [List.find?_range_eq_some.mpr ⟨h, List.mem_range.mpr hi, fun j hj => by rw [hno j hj]; rfl⟩]
theorem firstW_no {ls : List Str} (hno : ∀ j < ls.length, wrongB ls j = false) : firstW ls = if ls = [] then 1 else 0 := by
  unfold firstW
  rw [List.find?_range_eq_none.mpr fun j hj => by rw [hno j hj]; rfl]
theorem shaped_strs {zs : List Str} (h : ∀ z ∈ zs, OkS z) : SeqAt.shaped (.list (zs.map PyData.str)) = true := (shp_lst (n := 0) fun d hd => by
  obtain ⟨z, hz, rfl⟩ := List.mem_map.mp hd
  exact (⟨h z hz, Nat.le_refl _⟩ : Shp 0 (.str z))).ok (by decide)
theorem filt_all (p : Str → Bool) : ∀ W : List Str, (!((W.filter fun z => !p z).map PyData.str).isEmpty) = !W.all p
  | [] => rfl
  | w :: r => by
    have ih := filt_all p r
    cases hp : p w with
    | true =>
      rw [List.filter_cons_of_neg (by rw [hp]; decide), List.all_cons, hp, ih, Bool.true_and]
    | false =>
      rw [List.filter_cons_of_pos (by rw [hp]; rfl), List.all_cons, hp]
      rfl
section
variable {K : PySem.W.Frag} {P : Program} {w : World} {base : Heap} {mg : Str → Option Value} {C FE CT CV CS : Addr}
abbrev s__law_wrong_line : Stmt := topS 19
theorem sc__law_wrong_line : FnScope ["lines", "k", "known", "words", "word"] ["lines"] (defScope s__law_wrong_line) := ⟨rfl, rfl, rfl, by decide +kernel, rfl, by decide +kernel, by decide +kernel⟩
theorem ok_wrong {f : Addr} {fd : FuncData} (F : Fun K "_law_wrong_line" "_law_wrong_line" s__law_wrong_line f fd) (m_range : mg "range" = none) (m_len : mg "len" = none) (m_str : mg "str" = none) :
    FnOk P w K mg base CX0 1 f fd ["lines"] spWrong := by
  refine F.ok sc__law_wrong_line (fun vs H Q E h => ?_) (fun cdv A outer s H vs Q E hr h => ?_)
  · obtain ⟨v, ls, rfl, _⟩ := h
    rfl
  · obtain ⟨v, ls, rfl, hv, ok, q⟩ := h
    have hu64 := hr.units
    refine ⟨_, (pss_cons (ps_set (i := 2) sc__law_wrong_line.nd rfl (.inr rfl) (pe_lc (own := [("k", 1)]) rfl sc__law_wrong_line.nd (pi_range1 rfl m_range (pa_cons (pe_callB (call_lenK K) (by rfl) m_len PySem.boot_len (pa_cons (pv 0) pa_nil)) pa_nil)) (blkOk_by (by kernel_rfl)) (fun _ _ _ _ _ => (pg_name (i := 1) sc__law_wrong_line.nd rfl (.inl rfl))) (fun _ _ _ _ _ => pts_nil) (fun _ _ _ _ _ => (pe_callTy call_strI (by rfl) m_str (by decide +kernel) (pa_cons (pv 1) pa_nil)))))
    (pss_cons (ps_for PassesOwn.never rfl (pi_range1 rfl m_range (pa_cons (pe_callB (call_lenK K) (by rfl) m_len PySem.boot_len (pa_cons (pv 0) pa_nil)) pa_nil)) (pg_name (i := 1) sc__law_wrong_line.nd rfl (.inl rfl))
      (pss_cons (ps_set (i := 3) sc__law_wrong_line.nd rfl (.inl rfl) (pe_splitK (pe_ix (ix_listK K) (pv 0) (pv 1) (fun _ _ => rfl)) pe_str))
        (pss_one (ps_if (PW.pt (pw_or (pt_cmpR op_eq (pv 1) pe_int (nomark _)) (pw_or (pt_cmpR op_ne (pe_callB (call_lenK K) (by rfl) m_len PySem.boot_len (pa_cons (pv 3) pa_nil)) (pe_callB (call_lenK K) (by rfl) m_len PySem.boot_len (pa_cons (pv 0) pa_nil)) (nomark _)) (pw_or1 (pt_cmpR (op_neDK K hu64) (pe_lc (own := [("word", 4)]) rfl sc__law_wrong_line.nd (pi_listK K (pv 3)) (blkOk_by (by kernel_rfl)) (fun _ _ _ _ _ => (pg_name (i := 4) sc__law_wrong_line.nd rfl (.inl rfl))) (fun _ _ _ _ _ => pts_one (pt_cmpR (op_notInK K) (pv 4) (pv 2) rfl)) (fun _ _ _ _ _ => (pv 4))) (pe_lst pa_nil) (nomark _))))))
      (pss_one (ps_ret (pe_op op_add (pv 1) pe_int)))
      pss_nil))))
    (pss_one (ps_ret (pe_ifExp (pt_cmpR (op_eqDK K hu64) (pv 0) (pe_lst pa_nil) (nomark _)) pe_int pe_int))))), ?_⟩
    show tSeq _ _ _ [some v, none, none, none, none] H
    obtain ⟨a, xs, rfl, ha, hx⟩ := hv.list
    obtain rfl := hx.strs
    have hn := ok.many
    refine seqi fun k0 hk0 => ?_
    walk_at "rd"
    refine ⟨_, .inl (.inl ha), ?_⟩
    rw [List.length_map]
    refine ⟨by omega, by omega, ?_⟩
    rw [Int.toNat_natCast]
    refine lcg_old (jseq_rng 0 ls.length) trivial (List.range ls.length) (fun i => .int (0 + i)) (dts_rng ls.length) (by rw [List.length_range]; omega) (fun _ => true) (fun i => .str (nS (i : Int))) (fun x i hi hx H2 e2 T1 T0 t1 t0 => ?_) (fun D2 H3 hD2 e3 hd => ?_)
    · obtain rfl := hx.num
      have hi := List.mem_range.mp hi
      walk_at "rd"
      rw [Int.zero_add]
      have lg := PySem.Flt.log2_lt_of (k := 20) (by decide) (show (i : Int).natAbs < 2 ^ 20 by omega)
      refine ⟨by omega, t1 rfl _ _ (Same.refl _) (.str _)⟩
    · rw [List.filter_eq_self.mpr (fun _ _ => rfl)] at hd
      obtain ⟨D2', ys, eD, hD2', hys⟩ := hd.list
      cases eD
      rw [show (List.range ls.length).map (fun (i : Nat) => PyData.str (nS (i : Int))) = (known ls.length).map PyData.str by unfold known; rw [List.map_map]; rfl] at hys
      obtain rfl := hys.strs
      have ha3 := e3 _ _ ha
      subst hk0
      refine seqi fun k0 hk0 => ?_
      walk_at "rd"
      refine ⟨_, .inl (.inl ha3), ?_⟩
      rw [List.length_map]
      refine ⟨by omega, by omega, ?_⟩
      rw [Int.toNat_natCast]
      refine forg_by (jseq_rng 0 ls.length) (fun i σ' H' => (∃ y1 y3, σ' = [some (.ref a), y1, some (.ref D2), y3, none]) ∧ Same H3 H' ∧ ∀ j < i, wrongB ls j = false) ⟨⟨_, _, rfl⟩, Same.refl _, fun j h => absurd h (Nat.not_lt_zero j)⟩ (fun i σ' H' _ h => trivial) (fun i x σ' H' hx h => ?_) (fun σ' H' h => ?_)
      · obtain ⟨⟨y1, y3, rfl⟩, e4, hno⟩ := h
        have hi : i < ls.length := by
          have := (List.getElem?_eq_some_iff.mp hx).1
          rw [rngV_len] at this
          exact this
        obtain rfl : x = .int (0 + (i : Int)) := by rw [rngV_at hi] at hx; cases hx; rfl
        rw [Int.zero_add]
        have hl : ls[i]? = some ls[i] := List.getElem?_eq_getElem hi
        obtain ⟨hc, hb⟩ := ok.each _ (List.getElem_mem hi)
        have big : 100000 ≤ sizeLine := by decide
        refine seqi fun k1 hk1 => ?_
        walk_at "rd"
        refine ⟨_, .inl (.inl (e4 _ _ ha3)), _, atI_nat (j := i) (v := .str ls[i]) (by rw [List.getElem?_map, hl]; rfl), ⟨_, rfl⟩, _, rfl, rfl, by omega, fun l1 n1 => ?_⟩
        have s5 := same_new (o := HO.lst ((Txt.split ls[i] " ").map V.str)) n1
        generalize hH5 : upd H' l1 (HO.lst ((Txt.split ls[i] " ").map V.str)) = H5
        rw [hH5] at s5
        have hl1 : H5 l1 = some (.lst ((Txt.split ls[i] " ").map V.str)) := by rw [← hH5, upd_same]
        have e5 := e4.trans s5
        subst hk1
        have hw : wrongB ls i = badL ls.length i ls[i] := by
          unfold wrongB
          rw [hl]
        have hi60 : i ≤ 60 := by
          refine Nat.le_of_not_lt fun h => ?_
          have h60 := hno 60 h
          unfold wrongB at h60
          rw [List.getElem?_eq_getElem (by omega)] at h60
          unfold badL at h60
          simp at h60
        have qw : wrongB ls i = true → ∀ H6, Same H H6 → Q (.int ((i : Int) + 1)) H6 := fun h H6 s => by
          have := q H6 s
          rw [firstW_at hi h hno, Int.natCast_add] at this
          exact this
        have hjw := jl_split ls[i]
        generalize hW : Txt.split ls[i] " " = W at *
        have lW : W.length ≤ jl W := by
          unfold jl
          omega
        walk_at "rd"
        refine ⟨rfl, ite2 (fun h => qw (by rw [hw]; unfold badL; rw [decide_eq_true (show 60 ≤ i by have := of_decide_eq_true h; omega)]; rfl) _ (e3.trans e5)) (fun h1 => ?_)⟩
        have h1' : ¬ (i : Int) = 60 := fun z => h1 (decide_eq_true z)
        refine ⟨_, .inl (.inl hl1), _, .inl (.inl (s5 _ _ (e4 _ _ ha3))), rfl, ?_⟩
        rw [List.length_map, List.length_map]
        by_cases hlen : W.length = ls.length
        · rw [decide_eq_true (by omega)]
          refine iteF ⟨⟨_, .inl (.inl hl1)⟩, ?_⟩
          refine lcg_old (jseq_list K _ _) (.inl (.inl hl1)) W (fun z => .str z) (dts_strs W) (by omega) (fun z => !decide (z ∈ known ls.length)) (fun z => .str z) (fun x z hz hx H6 e6 T1 T0 t1 t0 => ?_) (fun D6 H6 hD6 e6 hd6 => ?_)
          · obtain rfl := hx.txt
            walk_at "rd"
            refine ⟨_, .inl (.inl (.inl (e6 _ _ (e5 _ _ hD2')))), rfl, flat_strs _, ?_⟩
            rw [inV_strs]
            exact ite2 (fun h => t1 h _ _ (Same.refl _) (.str _)) (fun h => t0 (Bool.eq_false_iff.mpr h) _ (Same.refl _))
          · refine ⟨Nat.zero_le _, fun l7 hl7 => ?_⟩
            refine ne_nilD (hd6.same (same_new hl7)) (shaped_strs fun z hz => chs_ok (chs_split hc (by rw [hW]; exact (List.mem_filter.mp hz).1))) upd_same ⟨_, rfl, ?_⟩
            rw [filt_all]
            have s7 := e6.trans (same_new (o := .lst []) hl7)
            cases hall : W.all fun w => decide (w ∈ known ls.length) with
            | true =>
              refine iteF ⟨⟨_, rfl⟩, e5.trans s7, fun j hj => ?_⟩
              rcases Nat.lt_succ_iff_lt_or_eq.mp hj with hj | rfl
              · exact hno j hj
              · rw [hw]
                unfold badL
                rw [hW, hall, decide_eq_true hlen, decide_eq_false (show ¬ 60 ≤ j by omega)]
                rfl
            | false =>
              refine iteT (qw ?_ _ (e3.trans (e5.trans s7)))
              rw [hw]
              unfold badL
              rw [hW, hall, Bool.not_false, Bool.or_true]
        · rw [decide_eq_false (by omega)]
          refine iteT (qw ?_ _ (e3.trans e5))
          rw [hw]
          unfold badL
          rw [hW, decide_eq_false hlen, Bool.not_false, Bool.or_true, Bool.true_or]
      · obtain ⟨⟨y1, y3, rfl⟩, e4, hno⟩ := h
        rw [rngV_len] at hno
        have hq := firstW_no hno
        subst hk0
        walk_at "rd"
        refine ⟨Nat.zero_le _, fun l hl => ?_⟩
        refine eq_nilD (((hv.same e3).same e4).same (same_new hl)) (shaped_strs fun z hz => chs_ok (ok.each z hz).1) upd_same ⟨_, rfl, ?_⟩
        have hq2 := q _ ((e3.trans e4).trans (same_new hl (o := .lst [])))
        rw [hq] at hq2
        cases ls with
        | nil =>
          rw [if_pos rfl] at hq2
          exact iteT hq2
        | cons z r =>
          rw [if_neg (by simp)] at hq2
          exact iteF hq2
end
end Fp

namespace Fp
open PySem PySem.Spec PyProof.Rows L2 ClX
local macro_rules | `(tactic| walk_at "rd") => `(tactic| simp only [dc_iR, fr_iE, tDIn, rStrI, rSplit, tM1, tTru, tOst, tChain, rRep, cxK, cxKn, tRet, tRetN, rIntI, rIntB, rLenL, rListL, rListT, rAbs, tDisp, tPairs, tC, tCB, tCons, tNil, tSl, tVar, tNoPart, tPart, rSlL, tOp, tAsg, gName, tIfS, tDrop, tTest, tAnd, tOr, Evl.tCut, tNot, tB, rI0, rI, rIxL, rIxT, rIxD, tDGet, sDPut, tLst, tTup, tBM, tBM0, tPar, rAppend, rPopAt, rPop, rExtend, rTupL, tCall, tNext, rAll, rOwnIn, rOwn2, rCat, lc_iL, lc_iT, lc_iK, lc_iR, lc_iE, fr_iL, fr_iT, fr_iR, tYes, rIn, rEq, rNe, gTup, gCons, gNil, wipe, tMeth, tFld, sFld, tMake, tProp, tIf, tAndV, tOrV, tNotV, tTru, rIsi, rSum, tRevL, rU, tUn, rIxS, iEnum, if_true, if_false, Bool.false_eq_true, List.map_cons, List.map_nil, List.nil_append, List.append_nil, List.cons_append, List.getElem?_cons_zero, List.getElem?_cons_succ, Option.some.injEq, exists_and_left, exists_eq_left', exists_eq_left, List.cons.injEq, and_true, true_and, V.ref.injEq, V.int.injEq, V.str.injEq, V.bl.injEq, List.set_cons_zero, List.set_cons_succ])

/-- Table.read -/
def spRead (C CB : Addr) : Sp := fun vs H Q E => ∃ t ls, vs = [.ref C, .str t] ∧ linesOf t = ls ∧ t.length + 2 ≤ sizeLine ∧ OkLs 70 6000 ls ∧
  (firstW ls ≠ 0 → ∀ d H', H d = none → Same H H' → H' d = some (.xd [("line", .int (firstW ls : Nat))]) → E (.ref CB) (some d) H') ∧
  (firstW ls = 0 → ∀ (M : List (List Int)) tt H', M.length = ls.length → ls.length ≤ 60 → ls.map (fun l => Txt.split l " ") = M.map (fun r => r.map nS) → (∀ r ∈ M, r.length = M.length) → (∀ r ∈ M, ∀ z ∈ r, OkV M.length z) → Same H H' → TbAt H' C tt M → Q (.ref tt) H')
/-- good lines are rows of numbers -/
theorem rows_of {n : Nat} : ∀ {ls : List Str} {k : Nat}, (∀ l ∈ ls, ∃ i, badL n i l = false) → ∃ M : List (List Int), ls.map (fun l => Txt.split l " ") = M.map (fun r => r.map nS) ∧ ∀ r ∈ M, r.length = n ∧ ∀ z ∈ r, OkV n z
  | [], _, _ => ⟨[], rfl, fun _ h => nomatch h⟩
  | l :: r, k, h => by
    obtain ⟨M, hM, hr⟩ := rows_of (ls := r) (k := k) fun x hx => h x (List.mem_cons_of_mem _ hx)
    obtain ⟨i, hb⟩ := h l List.mem_cons_self
    unfold badL at hb
    rw [Bool.or_eq_false_iff, Bool.or_eq_false_iff] at hb
    obtain ⟨⟨_, h1⟩, h2⟩ := hb
    have h1 : (Txt.split l " ").length = n := of_decide_eq_true (by cases hd : decide ((Txt.split l " ").length = n) with | true => rfl | false => rw [hd] at h1; cases h1)
    have h2 : (Txt.split l " ").all (fun w => decide (w ∈ known n)) = true := by cases hd : (Txt.split l " ").all (fun w => decide (w ∈ known n)) with | true => rfl | false => rw [hd] at h2; cases h2
    obtain ⟨q, hq, hz⟩ := row_of (n := n) (ws := Txt.split l " ") fun w hw => of_decide_eq_true (List.all_eq_true.mp h2 w hw)
    refine ⟨q :: M, by rw [List.map_cons, List.map_cons, hM, hq], fun x hx => ?_⟩
    rcases List.mem_cons.mp hx with rfl | hx
    · exact ⟨by rw [← h1, hq, List.length_map], hz⟩
    · exact hr x hx
theorem raise_add {C : Addr} {f : Str} {W : WX} {D : Ends} {σ : L2.St} {H : Hp} {i : Nat} {z n : Int} (h : σ[i]? = some (some (.int z))) (q : ∀ d H', H d = none → Same H H' → H' d = some (.xd [(f, .int (z + n))]) → W (.ref C) (some d) σ H') :
    tRaiseN C f (tOp (rI0 fun i j => .int (i + j)) (tVar i) (tC (.int n))) W D σ H :=
  ⟨.int z, h, z, n, rfl, rfl, raiseN_go (W := W) (σ := σ) q⟩
section
variable {K : PySem.W.Frag} {P : Program} {w : World} {base : Heap} {mg : Str → Option Value} {C FE CT CV CS CB : Addr}
abbrev s_Table_read : Stmt := inClass (topS 13) 2
theorem sc_Table_read : FnScope ["cls", "text", "lines", "numbers", "at", "words", "fits", "line", "k", "word"] ["cls", "text"] (defScope s_Table_read) := ⟨rfl, rfl, rfl, by decide +kernel, rfl, by decide +kernel, by decide +kernel⟩
theorem ok_read {f : Addr} {fd : FuncData} (F : Fun K "read" "Table.read" s_Table_read f fd) (TX : TxT K mg C) (Dlines_of : Dn P w K mg base 1 "lines_of" ["text"] spLines) (Dtable_of_rows : Dn P w K mg base 5 "table_of_rows" ["rows"] (spWR2 C)) (M : Xe P w K mg base CB "line")
    (m_BadTable : mg "BadTable" = some (.ref CB)) (m_range : mg "range" = none) (m_len : mg "len" = none) (m_str : mg "str" = none) (m_enumerate : mg "enumerate" = none) (m_all : mg "all" = none) (tG : Tok) (m__GREATEST_SIZE : mg "_GREATEST_SIZE" = some (.int 60 tG)) :
    FnOk P w K mg base (L2.CX P w) 6 f fd ["cls", "text"] (spRead C CB) := by
  refine F.okX sc_Table_read (fun vs H Q E h => ?_) (fun cdv A outer s H vs Q E hr h => ?_)
  · obtain ⟨t, ls, rfl, _⟩ := h
    rfl
  · obtain ⟨t, ls, rfl, hls, ht, ok, qe, q⟩ := h
    have hu64 := hr.units
    have hu := hu_of hr
    refine ⟨_, (pss_cons (ps_setLc (i := 2) (own := [("line", 7)]) rfl sc_Table_read.nd rfl rfl (sw_true rfl rfl rfl (by decide +kernel)) (pi_listK K (pd Dlines_of (hr.mono (by decide)) (by rfl) (pa_cons (pv 1) pa_nil))) (blkOk_by (by kernel_rfl)) (fun _ _ _ _ _ => (pg_name (i := 7) sc_Table_read.nd rfl (.inl rfl))) (fun _ _ _ _ _ => pts_nil) (fun _ _ _ _ _ => (pe_splitK (pv 7) pe_str)))
    (pss_cons (ps_if (pt_not (pt_truthK (K := K) (pv 2)))
      (pss_one (ps_raiseN M (hr.mono (by decide)) (by rfl) m_BadTable rfl (takes_of rfl rfl rfl rfl) pe_int))
      pss_nil)
    (pss_cons (ps_set (i := 3) sc_Table_read.nd rfl (.inr rfl) (pe_dc (own := [("k", 8)]) rfl sc_Table_read.nd (pi_range1 rfl m_range (pa_cons (pe_callB (call_lenK K) (by rfl) m_len PySem.boot_len (pa_cons (pv 2) pa_nil)) pa_nil)) (blkOk_by (by kernel_rfl)) (fun _ _ _ _ _ => (pg_name (i := 8) sc_Table_read.nd rfl (.inl rfl))) (fun _ _ _ _ _ => pts_nil) (fun _ _ _ _ _ => (pe_callTy call_strI (by rfl) m_str (by decide +kernel) (pa_cons (pv 8) pa_nil))) (fun _ _ _ _ _ => (pv 8))))
    (pss_cons (ps_for (passes_of rfl) rfl (pi_enumK (K := K) rfl m_enumerate (pa_cons (pv 2) pa_nil)) (pg_tupK K (pg_tup (n := 2) rfl (pgs_cons (pg_name (i := 4) sc_Table_read.nd rfl (.inl rfl)) (pgs_cons (pg_name (i := 5) sc_Table_read.nd rfl (.inl rfl)) pgs_nil))))
      (pss_cons (ps_set (i := 6) sc_Table_read.nd rfl (.inl rfl) (pe_and (pe_cmpR op_eq (pe_callB (call_lenK K) (by rfl) m_len PySem.boot_len (pa_cons (pv 5) pa_nil)) (pe_callB (call_lenK K) (by rfl) m_len PySem.boot_len (pa_cons (pv 2) pa_nil)) (nomark _)) (pe_one (pe_callB (call_allK K rfl) (by rfl) m_all (by decide +kernel) (pa_cons (pe_lc (own := [("word", 9)]) rfl sc_Table_read.nd (pi_listK K (pv 5)) (blkOk_by (by kernel_rfl)) (fun _ _ _ _ _ => (pg_name (i := 9) sc_Table_read.nd rfl (.inl rfl))) (fun _ _ _ _ _ => pts_nil) (fun _ _ _ _ _ => (pe_cmp (pc_din hu (pv 9) (pv 3)) rfl))) pa_nil)))))
        (pss_one (ps_if (PW.pt (pw_or (pt_cmpR op_ge (pv 4) (pe_glob rfl m__GREATEST_SIZE (v := .int 60) ⟨_, rfl⟩) (nomark _)) (pw_or1 (pt_not (pt_val (pv 6))))))
      (pss_one (ps_raiseN M (hr.mono (by decide)) (by rfl) m_BadTable rfl (takes_of rfl rfl rfl rfl) (pe_op op_add (pv 4) pe_int)))
      pss_nil))))
    (pss_one (ps_ret (pd Dtable_of_rows (hr.mono (by decide)) (by rfl) (pa_cons (pe_lc (own := [("words", 5)]) rfl sc_Table_read.nd (pi_listK K (pv 2)) (blkOk_by (by kernel_rfl)) (fun _ _ _ _ _ => (pg_name (i := 5) sc_Table_read.nd rfl (.inl rfl))) (fun _ _ _ _ _ => pts_nil) (fun _ _ _ _ _ => (pe_lc (own := [("word", 9)]) rfl sc_Table_read.nd (pi_listK K (pv 5)) (blkOk_by (by kernel_rfl)) (fun _ _ _ _ _ => (pg_name (i := 9) sc_Table_read.nd rfl (.inl rfl))) (fun _ _ _ _ _ => pts_nil) (fun _ _ _ _ _ => (pe_dget hu (pv 3) (pv 9) (fun _ _ => rfl)))))) pa_nil)))))))), ?_⟩
    show tSeq _ _ _ [some (.ref C), some (.str t), none, none, none, none, none, none, none, none] H
    refine seqi fun k0 hk0 => ?_
    walk_at "rd"
    refine ⟨t, rfl, ht, fun L0 H1 hL0 s1 hl1 => ?_⟩
    rw [hls] at hl1
    refine ⟨L0, rfl, ⟨_, .inl (.inl hl1)⟩, ?_⟩
    have hmany := ok.many
    have big : 100000 ≤ sizeLine := by decide
    refine lcg_dt (jseq_list K _ _) (.inl (.inl hl1)) ls (fun l => .str l) (dts_strs ls) (by omega) (fun l => .list ((Txt.split l " ").map .str)) (fun D z l hl hz H2 e2 hD2 S1 S0 s2 => ?_) (fun D H2 hD2 e2 hd => ?_)
    · obtain rfl := hz.txt
      have hlb := (ok.each l hl).2
      walk_at "rd"
      refine ⟨⟨_, rfl⟩, rfl, by omega, fun p hp => s2 _ _ (same_new hp) (.lst (by rw [del_ne (fun z => hD2 (by rw [← z]; exact hp)), upd_same]) (dts_strs _))⟩
    · obtain ⟨D', xs, eD, hxD, hxs⟩ := hd.list
      cases eD
      have lx : xs.length = ls.length := by rw [hxs.len, List.length_map]
      subst hk0
      refine seqi fun k0 hk0 => ?_
      walk_at "rd"
      refine ⟨_, .inl ⟨xs, .inl (.inl hxD), rfl⟩, ?_⟩
      by_cases hnil : ls = []
      · have hw : firstW ls = 1 := by
          rw [hnil]
          unfold firstW
          exact if_pos rfl
        have ex : xs.isEmpty = true := by
          rw [List.isEmpty_iff_length_eq_zero, lx, hnil]
          rfl
        rw [ex]
        refine iteT ?_
        have qe1 := qe (by rw [hw]; decide)
        rw [hw] at qe1
        exact raiseN_go (W := fun cls d x H => E cls d H) (σ := []) fun d H' nd s hx => qe1 d H' ((s1.trans e2).free nd) ((s1.trans e2).trans s) hx
      · have ex : xs.isEmpty = false := by
          cases xs with
          | nil =>
            exact absurd (List.length_eq_zero_iff.mp lx.symm) hnil
          | cons x r => rfl
        rw [ex]
        refine iteF ?_
        subst hk0
        refine seqi fun k0 hk0 => ?_
        walk_at "rd"
        refine ⟨_, .inl (.inl hxD), ?_⟩
        rw [lx]
        refine ⟨by omega, by omega, ?_⟩
        rw [Int.toNat_natCast]
        refine dcg_by (jseq_rng 0 ls.length) (fun D3 i H' => Same H2 H' ∧ H' D3 = some (.dK (kvsN i))) (fun D3 h => ⟨same_new h, upd_same⟩) (fun _ _ _ _ _ _ => trivial) (fun D3 i x H' hD3 hx p => ?_) (fun D3 H3 hD3 p => ?_)
        · obtain ⟨e3, hk⟩ := p
          have hi : i < ls.length := by
            have := (List.getElem?_eq_some_iff.mp hx).1
            rw [rngV_len] at this
            exact this
          obtain rfl : x = .int (0 + (i : Int)) := by rw [rngV_at hi] at hx; cases hx; rfl
          rw [Int.zero_add]
          have lg := PySem.Flt.log2_lt_of (k := 20) (by decide) (show (i : Int).natAbs < 2 ^ 20 by omega)
          have lk := kvsN_len i
          walk_at "rd"
          exact ⟨by omega, kvsN i, .inr (nS (i : Int)), rfl, hk, by omega, Same.mut e3 hD3, upd_same⟩
        · rw [rngV_len] at p
          obtain ⟨e3, hk⟩ := p
          have hxD3 := e3 _ _ hxD
          have hxs3 := hxs.same e3
          subst hk0
          refine seqi fun k0 hk0 => ?_
          walk_at "rd"
          refine ⟨xs, .inl (.inl hxD3), ?_⟩
          refine forg_enum (fun i σ' H' => (∃ y4 y5 y6, σ' = [some (.ref C), some (.str t), some (.ref D), some (.ref D3), y4, y5, y6, none, none, none]) ∧ Same H3 H' ∧ ∀ j < i, wrongB ls j = false) ⟨⟨_, _, _, rfl⟩, Same.refl _, fun j h => absurd h (Nat.not_lt_zero j)⟩ (fun i σ' H' _ h => .inl (.inl (h.2.1 _ _ hxD3))) (fun i x σ' H' T hx h hT => ?_) (fun σ' H' h => ?_)
          · obtain ⟨⟨y4, y5, y6, rfl⟩, e4, hno⟩ := h
            have hi : i < ls.length := lx ▸ (List.getElem?_eq_some_iff.mp hx).1
            have hl : ls[i]? = some ls[i] := List.getElem?_eq_getElem hi
            obtain ⟨hc, hb⟩ := ok.each _ (List.getElem_mem hi)
            obtain ⟨x', hx', hdx⟩ := hxs3.get (i := i) (d := .list ((Txt.split ls[i] " ").map .str)) (by rw [List.getElem?_map, hl]; rfl)
            rw [hx] at hx'
            cases hx'
            obtain ⟨wd, ws, rfl, hwd, hws⟩ := hdx.list
            obtain rfl := hws.strs
            walk_at "rd"
            refine ⟨_, .inl (.inl upd_same), rfl, _, _, rfl, _, _, rfl, rfl, ?_⟩
            have s5 : Same H' (upd H' T (.tup [.int (i : Nat), .ref wd])) := same_new hT
            generalize hH5 : upd H' T (HO.tup [V.int (i : Nat), V.ref wd]) = H5 at s5 ⊢
            have e5 := e4.trans s5
            have hw : wrongB ls i = badL ls.length i ls[i] := by
              unfold wrongB
              rw [hl]
            have hjw := jl_split ls[i]
            have hbd : badL ls.length i ls[i] = (decide (60 ≤ i) || !(decide ((Txt.split ls[i] " ").length = ls.length) && (Txt.split ls[i] " ").all fun w => decide (w ∈ known ls.length))) := by
              unfold badL
              rw [Bool.not_and, Bool.or_assoc]
            generalize hW : Txt.split ls[i] " " = W at *
            have lW : W.length ≤ jl W := by
              unfold jl
              omega
            have qw : wrongB ls i = true → ∀ d H', H d = none → Same H H' → H' d = some (.xd [("line", .int ((i : Int) + 1))]) → E (.ref CB) (some d) H' := fun h d H' nd s hx => by
              have hf := firstW_at hi h hno
              refine qe (by rw [hf]; exact Nat.succ_ne_zero i) d H' nd s ?_
              rw [hf, Int.natCast_add]
              exact hx
            have sH : Same H H5 := ((s1.trans e2).trans e3).trans e5
            refine seqi fun k1 hk1 => ?_
            have fin : ∀ (b : Bool) H6, Same H5 H6 → badL ls.length i ls[i] = (decide (60 ≤ i) || !b) → k1 [some (.ref C), some (.str t), some (.ref D), some (.ref D3), some (.int (i : Nat)), some (.ref wd), some (.bl b), none, none, none] H6 := fun b H6 s6 hb => by
              subst hk1
              walk_at "rd"
              have go : wrongB ls i = true → ∀ d H', H6 d = none → Same H6 H' → H' d = some (.xd [("line", .int ((i : Int) + 1))]) → E (.ref CB) (some d) H' := fun h d H' nd s hx => qw h d H' ((sH.trans s6).free nd) ((sH.trans s6).trans s) hx
              refine ite2 (fun h => raise_add rfl (go ?_)) (fun h => ?_)
              · rw [hw, hb, decide_eq_true (show 60 ≤ i by have := of_decide_eq_true h; omega), Bool.true_or]
              · have h60 : ¬ 60 ≤ i := fun z => h (decide_eq_true (by omega))
                cases b with
                | false =>
                  refine iteT (raise_add rfl (go ?_))
                  rw [hw, hb, Bool.not_false, Bool.or_true]
                | true =>
                  refine iteF ⟨⟨_, rfl⟩, e5.trans s6, fun j hj => ?_⟩
                  rcases Nat.lt_succ_iff_lt_or_eq.mp hj with hj | rfl
                  · exact hno j hj
                  · rw [hw, hb, decide_eq_false h60]
                    rfl
            walk_at "rd"
            refine ⟨_, .inl (.inl (e5 _ _ hwd)), _, .inl (.inl (e5 _ _ hxD3)), rfl, ?_⟩
            rw [List.length_map, lx]
            by_cases hlen : W.length = ls.length
            · rw [decide_eq_true (by omega)]
              refine iteT ⟨⟨_, .inl (.inl (e5 _ _ hwd))⟩, ?_⟩
              refine lcg_old (jseq_list K _ _) (.inl (.inl (e5 _ _ hwd))) W (fun z => .str z) (dts_strs W) (by omega) (fun _ => true) (fun z => .bool (decide (z ∈ known ls.length))) (fun x z hz hx H6 e6 T1 T0 t1 t0 => ?_) (fun D6 H6 hD6 e6 hd6 => ?_)
              · obtain rfl := hx.txt
                walk_at "rd"
                refine ⟨_, .inl ⟨_, .inr z, .inl (e6 _ _ (e5 _ _ hk)), rfl, rfl⟩, ?_⟩
                rw [kvsN_in]
                exact t1 rfl _ _ (Same.refl _) (.bl _)
              · rw [List.filter_eq_self.mpr (fun _ _ => rfl), show (W.map fun z => PyData.bool (decide (z ∈ known ls.length))) = (W.map fun z => decide (z ∈ known ls.length)).map PyData.bool by rw [List.map_map]; rfl] at hd6
                obtain ⟨D7, ys, eD, hD7, hys⟩ := hd6.list
                cases eD
                obtain rfl := dts_bools hys
                refine ⟨_, rfl, _, .inl (.inl hD7), fin _ _ e6 ?_⟩
                rw [hbd, decide_eq_true hlen, Bool.true_and, List.all_map]
                rfl
            · rw [decide_eq_false (by omega)]
              refine iteF (fin _ _ (Same.refl _) ?_)
              rw [hbd, decide_eq_false hlen, Bool.false_and]
          · obtain ⟨⟨y4, y5, y6, rfl⟩, e4, hno⟩ := h
            rw [lx] at hno
            have hq := firstW_no hno
            rw [if_neg hnil] at hq
            subst hk0
            have h60 : ls.length ≤ 60 := Nat.le_of_not_lt fun h => by
              have h1 := hno 60 h
              unfold wrongB at h1
              rw [List.getElem?_eq_getElem h] at h1
              unfold badL at h1
              simp at h1
            obtain ⟨E1, hE1, hE2⟩ := rows_of (n := ls.length) (ls := ls) (k := 0) fun l hl => by
              obtain ⟨j, hj, rfl⟩ := List.getElem_of_mem hl
              have h1 := hno j hj
              unfold wrongB at h1
              rw [List.getElem?_eq_getElem hj] at h1
              exact ⟨j, h1⟩
            have lE : E1.length = ls.length := by
              have := congrArg List.length hE1
              rw [List.length_map, List.length_map] at this
              exact this.symm
            have hxs4 := hxs3.same e4
            have hE3 : ls.map (fun l => PyData.list ((Txt.split l " ").map .str)) = E1.map fun r => PyData.list ((r.map nS).map .str) := by
              have := congrArg (List.map fun (W : List Str) => PyData.list (W.map .str)) hE1
              rw [List.map_map, List.map_map] at this
              exact this
            rw [hE3] at hxs4
            walk_at "rd"
            refine ⟨⟨_, .inl (.inl (e4 _ _ hxD3))⟩, ?_⟩
            refine lcg_dt (jseq_list K _ _) (.inl (.inl (e4 _ _ hxD3))) E1 (fun r => .list ((r.map nS).map .str)) hxs4 (by omega) (fun r => .list (r.map .int)) (fun D6 z r hr hz H6 e6 hD6 S1 S0 t1 => ?_) (fun D6 H6 hD6 e6 hd6 => ?_)
            · obtain ⟨wd, ws, rfl, hwd, hws⟩ := hz.list
              obtain rfl := hws.strs
              obtain ⟨hr1, hr2⟩ := hE2 r hr
              walk_at "rd"
              refine ⟨⟨_, .inl (.inl (e6 _ _ hwd))⟩, ?_⟩
              refine lcg_old (jseq_list K _ _) (.inl (.inl (e6 _ _ hwd))) r (fun z => .str (nS z)) (by rw [show r.map (fun z => PyData.str (nS z)) = (r.map nS).map PyData.str by rw [List.map_map]; rfl]; exact dts_strs _) (by omega) (fun _ => true) (fun z => .int z) (fun x z hz hx H7 e7 T1 T0 u1 u0 => ?_) (fun D7 H7 hD7 e7 hd7 => ?_)
              · obtain rfl := hx.txt
                obtain ⟨j, rfl⟩ : ∃ j : Nat, z = (j : Int) := ⟨z.toNat, by have := (hr2 z hz).1; omega⟩
                have hj := (hr2 _ hz).2
                walk_at "rd"
                refine ⟨_, .inl ⟨_, .inr (nS (j : Int)), .inl (e7 _ _ (e6 _ _ (e4 _ _ hk))), rfl, (kvsN_at (by omega) (by omega)).symm⟩, ?_⟩
                exact u1 rfl _ _ (Same.refl _) (.int _)
              · rw [List.filter_eq_self.mpr (fun _ _ => rfl)] at hd7
                obtain ⟨D8, ys, eD, hD8, hys⟩ := hd7.list
                cases eD
                obtain rfl := hys.ints
                exact t1 _ _ e7 (.lst (by rw [del_ne (fun z => hD6 (by rw [← z]; exact hD7))]; exact hD8) (dts_ints _))
            · have pos : 0 < ls.length := List.length_pos_iff.mpr hnil
              exact ⟨_, E1, rfl, hd6, by omega, by omega, fun tt dx R7 H7 nt s7 ht hR7 => q hq E1 tt H7 lE h60 hE1 (fun r hr => by rw [(hE2 r hr).1, lE]) (fun r hr z hz => by rw [lE]; exact (hE2 r hr).2 z hz) (((((s1.trans e2).trans e3).trans e4).trans e6).trans s7) ⟨dx, _, ht, hR7⟩⟩
end
end Fp

namespace Fp
open PySem PySem.Spec PyProof.Rows L2 ClX
local macro_rules | `(tactic| walk_at "rd") => `(tactic| simp only [rRepS, dc_iR, fr_iE, tDIn, rStrI, rSplit, tM1, tTru, tOst, tChain, rRep, cxK, cxKn, tRet, tRetN, rIntI, rIntB, rLenL, rListL, rListT, rAbs, tDisp, tPairs, tC, tCB, tCons, tNil, tSl, tVar, tNoPart, tPart, rSlL, tOp, tAsg, gName, tIfS, tDrop, tTest, tAnd, tOr, Evl.tCut, tNot, tB, rI0, rI, rIxL, rIxT, rIxD, tDGet, sDPut, tLst, tTup, tBM, tBM0, tPar, rAppend, rPopAt, rPop, rExtend, rTupL, tCall, tNext, rAll, rOwnIn, rOwn2, rCat, lc_iL, lc_iT, lc_iK, lc_iR, lc_iE, fr_iL, fr_iT, fr_iR, tYes, rIn, rEq, rNe, gTup, gCons, gNil, wipe, tMeth, tFld, sFld, tMake, tProp, tIf, tAndV, tOrV, tNotV, tTru, rIsi, rSum, tRevL, rU, tUn, rIxS, iEnum, if_true, if_false, Bool.false_eq_true, List.map_cons, List.map_nil, List.nil_append, List.append_nil, List.cons_append, List.getElem?_cons_zero, List.getElem?_cons_succ, Option.some.injEq, exists_and_left, exists_eq_left', exists_eq_left, List.cons.injEq, and_true, true_and, V.ref.injEq, V.int.injEq, V.str.injEq, V.bl.injEq, List.set_cons_zero, List.set_cons_succ])

theorem split_ne (l : Str) : 0 < (Txt.split l " ").length := split_pos l " "
def oddS (n : Int) : List Str := ["", "-1", "00", "01", nS n, nS (n - 1), "x", "+1", "0", " 0", Txt.mul "9" 30, "-0"]
theorem odd_ok {n : Nat} (h0 : 0 < n) (hn : n ≤ 90) : ∀ w ∈ oddS (n : Nat), chs w ∧ w.length ≤ 30 := fun w hw => by
  have hN : ∀ k : Nat, k < 100 → chs (nS (k : Int)) ∧ (nS (k : Int)).length ≤ 30 := fun k hk => ⟨nS_chs k hk, Nat.le_trans (nS_len60 k hk) (by decide)⟩
  have e : (n : Int) - 1 = ((n - 1 : Nat) : Int) := by omega
  unfold oddS at hw
  rw [e] at hw
  simp only [List.mem_cons, List.not_mem_nil, or_false] at hw
  rcases hw with h | h | h | h | h | h | h | h | h | h | h | h <;> rw [h]
  · exact ⟨by unfold chs; decide +kernel, by decide +kernel⟩
  · exact ⟨by unfold chs; decide +kernel, by decide +kernel⟩
  · exact ⟨by unfold chs; decide +kernel, by decide +kernel⟩
  · exact ⟨by unfold chs; decide +kernel, by decide +kernel⟩
  · exact hN _ (by omega)
  · exact hN _ (by omega)
  · exact ⟨by unfold chs; decide +kernel, by decide +kernel⟩
  · exact ⟨by unfold chs; decide +kernel, by decide +kernel⟩
  · exact ⟨by unfold chs; decide +kernel, by decide +kernel⟩
  · exact ⟨by unfold chs; decide +kernel, by decide +kernel⟩
  · exact ⟨by unfold chs; decide +kernel, by decide +kernel⟩
  · exact ⟨by unfold chs; decide +kernel, by decide +kernel⟩
theorem nxt {D : Ends} {σ : L2.St} {H : Hp} (h : D.nx σ H) : tNext D σ H := h
def spBent : Sp := fun vs H Q _ => ∃ p c v t m b ls, vs = [.ref p, v] ∧ PenOk H p c t ∧ t ≤ 800000000 ∧ Dt H v (.list (ls.map .str)) ∧ OkLs m b ls ∧ m ≤ 64 ∧ b ≤ 400 ∧
  ∀ v' ls' H', OkLs (m + 1) (b + 32) ls' → Dt H' v' (.list (ls'.map .str)) → PenOk H' p c (t + 5) → But p H H' → Q v' H'
section
variable {K : PySem.W.Frag} {P : Program} {w : World} {base : Heap} {mg : Str → Option Value} {C FE CT CV CS CB : Addr}
abbrev s__law_bent : Stmt := topS 20
theorem sc__law_bent : FnScope ["pen", "lines", "at", "way", "words", "spot", "some", "odd"] ["pen", "lines"] (defScope s__law_bent) := ⟨rfl, rfl, rfl, by decide +kernel, rfl, by decide +kernel, by decide +kernel⟩
theorem ok_bent {f : Addr} {fd : FuncData} (F : Fun K "_law_bent" "_law_bent" s__law_bent f fd) (D_law_draw : Dn P w K mg base 1 "_law_draw" ["pen", "span"] spDraw) (D_law_pick : Dn P w K mg base 2 "_law_pick" ["pen", "options"] spPick)
    (m_len : mg "len" = none) (m_str : mg "str" = none) (m_int : mg "int" = none) :
    FnOk P w K mg base CX0 3 f fd ["pen", "lines"] spBent := by
  refine F.ok sc__law_bent (fun vs H Q E h => ?_) (fun cdv A outer s H vs Q E hr h => ?_)
  · obtain ⟨p, c, v, t, m, b, ls, rfl, _⟩ := h
    rfl
  · obtain ⟨p, c, v, t, m, b, ls, rfl, hP, ht, hv, ok, hm, hb, q⟩ := h
    have hu64 := hr.units
    refine ⟨_, (pss_cons (ps_if (pt_cmpR (op_eqDK K hu64) (pv 1) (pe_lst pa_nil) (nomark _))
      (pss_one (ps_ret (pe_ix (ix_listK K) (pe_lst (pa_cons (pe_lst (pa_cons pe_str pa_nil)) (pa_cons (pe_lst (pa_cons pe_str pa_nil)) (pa_cons (pe_lst pa_nil) pa_nil)))) (pd D_law_draw (hr.mono (by decide)) (by rfl) (pa_cons (pv 0) (pa_cons pe_int pa_nil))) (fun _ _ => rfl))))
      pss_nil)
    (pss_cons (ps_par (i := 2) (j := 3) rfl sc__law_bent.nd rfl rfl (by decide) rfl rfl (pa_cons (pd D_law_draw (hr.mono (by decide)) (by rfl) (pa_cons (pv 0) (pa_cons (pe_callB (call_lenK K) (by rfl) m_len PySem.boot_len (pa_cons (pv 1) pa_nil)) pa_nil))) (pa_cons (pd D_law_draw (hr.mono (by decide)) (by rfl) (pa_cons (pv 0) (pa_cons pe_int pa_nil))) pa_nil)) rfl)
    (pss_cons (ps_set (i := 4) sc__law_bent.nd rfl (.inl rfl) (pe_splitK (pe_ix (ix_listK K) (pv 1) (pv 2) (fun _ _ => rfl)) pe_str))
    (pss_cons (ps_set (i := 5) sc__law_bent.nd rfl (.inl rfl) (pd D_law_draw (hr.mono (by decide)) (by rfl) (pa_cons (pv 0) (pa_cons (pe_callB (call_lenK K) (by rfl) m_len PySem.boot_len (pa_cons (pv 4) pa_nil)) pa_nil))))
    (pss_cons (ps_set (i := 6) sc__law_bent.nd rfl (.inl rfl) (pe_lst (pa_cons pe_str (pa_cons pe_str (pa_cons pe_str (pa_cons pe_str (pa_cons (pe_callTy call_strI (by rfl) m_str (by decide +kernel) (pa_cons (pe_callB (call_lenK K) (by rfl) m_len PySem.boot_len (pa_cons (pv 1) pa_nil)) pa_nil)) (pa_cons (pe_callTy call_strI (by rfl) m_str (by decide +kernel) (pa_cons (pe_op op_sub (pe_callB (call_lenK K) (by rfl) m_len PySem.boot_len (pa_cons (pv 1) pa_nil)) pe_int) pa_nil)) (pa_cons pe_str (pa_cons pe_str (pa_cons pe_str (pa_cons pe_str (pa_cons (pe_op op_repS pe_str pe_int) (pa_cons pe_str pa_nil))))))))))))))
    (pss_cons (ps_set (i := 7) sc__law_bent.nd rfl (.inl rfl) (pd D_law_pick (hr.mono (by decide)) (by rfl) (pa_cons (pv 0) (pa_cons (pv 6) pa_nil))))
    (pss_cons (ps_if (pt_cmpR op_lt (pv 3) pe_int (nomark _))
      (pss_one (ps_set (i := 4) sc__law_bent.nd rfl (.inl rfl) (pe_op op_cat (pe_op op_cat (pe_slice (sl_listK K) (pv 4) po_none (po_some (pv 5))) (pe_lst (pa_cons (pv 7) pa_nil))) (pe_slice (sl_listK K) (pv 4) (po_some (pe_op op_add (pv 5) pe_int)) po_none))))
      (pss_one (ps_if (pt_cmpR op_eq (pv 3) pe_int (nomark _))
      (pss_one (ps_set (i := 4) sc__law_bent.nd rfl (.inl rfl) (pe_op op_cat (pe_slice (sl_listK K) (pv 4) po_none (po_some (pv 5))) (pe_slice (sl_listK K) (pv 4) (po_some (pe_op op_add (pv 5) pe_int)) po_none))))
      (pss_one (ps_if (pt_cmpR op_eq (pv 3) pe_int (nomark _))
      (pss_one (ps_set (i := 4) sc__law_bent.nd rfl (.inl rfl) (pe_op op_cat (pe_op op_cat (pe_slice (sl_listK K) (pv 4) po_none (po_some (pv 5))) (pe_lst (pa_cons (pv 7) pa_nil))) (pe_slice (sl_listK K) (pv 4) (po_some (pv 5)) po_none))))
      pss_nil)))))
    (pss_cons (ps_if (pt_cmpR op_eq (pv 3) pe_int (nomark _))
      (pss_one (ps_ret (pe_op op_cat (pe_slice (sl_listK K) (pv 1) po_none (po_some (pv 2))) (pe_slice (sl_listK K) (pv 1) (po_some (pe_op op_add (pv 2) pe_int)) po_none))))
      pss_nil)
    (pss_cons (ps_if (pt_cmpR op_eq (pv 3) pe_int (nomark _))
      (pss_one (ps_ret (pe_op op_cat (pe_op op_cat (pe_slice (sl_listK K) (pv 1) po_none (po_some (pv 2))) (pe_lst (pa_cons (pe_ix (ix_listK K) (pv 1) (pv 2) (fun _ _ => rfl)) pa_nil))) (pe_slice (sl_listK K) (pv 1) (po_some (pv 2)) po_none))))
      pss_nil)
    (pss_one (ps_ret (pe_op op_cat (pe_op op_cat (pe_op op_cat (pe_slice (sl_listK K) (pv 1) po_none (po_some (pv 2))) (pe_lst (pa_cons (pe_joinK K pe_str (pv 4)) pa_nil))) (pe_op op_rep (pe_lst (pa_cons pe_str pa_nil)) (pe_callTy call_intB (by rfl) m_int (by decide +kernel) (pa_cons (pe_cmpR op_eq (pv 3) pe_int (nomark _)) pa_nil)))) (pe_slice (sl_listK K) (pv 1) (po_some (pe_op op_add (pv 2) pe_int)) po_none))))))))))))), ?_⟩
    show tSeq _ _ _ [some (.ref p), some v, none, none, none, none, none, none] H
    obtain ⟨a, xs, rfl, ha, hx⟩ := hv.list
    obtain rfl := hx.strs
    refine seqi fun k0 hk0 => ?_
    walk_at "rd"
    refine ⟨Nat.zero_le _, fun l0 hl0 => ?_⟩
    have s0 := same_new (o := .lst []) hl0
    refine eq_nilD (hv.same s0) (shaped_strs fun z hz => chs_ok (ok.each z hz).1) upd_same ⟨_, rfl, ?_⟩
    generalize upd H l0 (.lst []) = H0 at s0 ⊢
    have hP0 := hP.same s0
    obtain ⟨kvs, hpk⟩ := hP0.dict
    by_cases hnil : ls = []
    · rw [show (ls.map PyData.str).isEmpty = true by rw [hnil]; rfl]
      refine iteT ⟨Nat.le_of_lt (small1000 (show 1 ≤ 1000 by decide)), fun l1 n1 => ⟨Nat.le_of_lt (small1000 (show 1 ≤ 1000 by decide)), fun l2 n2 => ⟨Nat.zero_le _, fun l3 n3 => ⟨Nat.le_of_lt (small1000 (show 3 ≤ 1000 by decide)), fun l4 n4 => ?_⟩⟩⟩⟩
      have s1 := same_new (o := HO.lst [V.str "0"]) n1
      have d1 : (upd H0 l1 (HO.lst [V.str "0"])) l1 = some (.lst [V.str "0"]) := upd_same
      generalize upd H0 l1 (HO.lst [V.str (Str.ofString "0")]) = H1 at *
      have s2 := same_new (o := HO.lst [V.str ""]) n2
      have d2 : (upd H1 l2 (HO.lst [V.str ""])) l2 = some (.lst [V.str ""]) := upd_same
      generalize upd H1 l2 (HO.lst [V.str (Str.ofString "")]) = H2 at *
      have s3 := same_new (o := HO.lst []) n3
      have d3 : (upd H2 l3 (HO.lst [])) l3 = some (.lst []) := upd_same
      generalize upd H2 l3 (HO.lst []) = H3 at *
      have s4 := same_new (o := HO.lst [V.ref l1, V.ref l2, V.ref l3]) n4
      have d4 : (upd H3 l4 (HO.lst [V.ref l1, V.ref l2, V.ref l3])) l4 = some (.lst [V.ref l1, V.ref l2, V.ref l3]) := upd_same
      generalize upd H3 l4 (HO.lst [V.ref l1, V.ref l2, V.ref l3]) = H4 at *
      have s04 := ((s1.trans s2).trans s3).trans s4
      have hpk4 := s04 _ _ hpk
      have nl : ∀ {l : Addr} {xs : List V}, H4 l = some (.lst xs) → l ≠ p := fun h => ne_of h hpk4 (by intro z; cases z)
      have k1 := s4 _ _ (s3 _ _ (s2 _ _ d1))
      have k2 := s4 _ _ (s3 _ _ d2)
      have k3 := s4 _ _ d3
      refine ⟨p, c, 3, t, rfl, hP0.same s04, by omega, by decide, by decide, fun r H5 r0 r1 P5 b5 => ?_⟩
      have bb : But p H H5 := (But.of (s0.trans s04)).trans b5
      refine ⟨_, r, rfl, .inl (.inl (b5.1 _ _ d4 (nl d4))), ?_⟩
      have okl : ∀ l : Str, chs l → l.length ≤ 1 → OkLs (m + 1) (b + 32) [l] := fun l h1 h2 => ⟨Nat.succ_le_succ (Nat.zero_le _), fun x hx => by
        rw [List.mem_singleton.mp hx]
        exact ⟨h1, by omega⟩⟩
      obtain ⟨j, rfl⟩ : ∃ j : Nat, r = (j : Int) := ⟨r.toNat, by omega⟩
      match j, r1 with
      | 0, _ => exact ⟨_, atI_nat (j := 0) rfl, q _ ["0"] H5 (okl _ (by unfold chs; decide +kernel) (by decide)) (.lst (b5.1 _ _ k1 (nl k1)) (dts_strs ["0"])) (P5.mono (by omega)) bb⟩
      | 1, _ => exact ⟨_, atI_nat (j := 1) rfl, q _ [""] H5 (okl _ (by unfold chs; decide +kernel) (by decide)) (.lst (b5.1 _ _ k2 (nl k2)) (dts_strs [""])) (P5.mono (by omega)) bb⟩
      | 2, _ => exact ⟨_, atI_nat (j := 2) rfl, q _ [] H5 ⟨Nat.zero_le _, fun _ h => nomatch h⟩ (.lst (b5.1 _ _ k3 (nl k3)) (dts_strs [])) (P5.mono (by omega)) bb⟩
      | j + 3, r1 => omega
    · rw [show (ls.map PyData.str).isEmpty = false by cases ls with | nil => exact absurd rfl hnil | cons x r => rfl]
      refine iteF ?_
      subst hk0
      have pos : 0 < ls.length := List.length_pos_iff.mpr hnil
      have hmany := ok.many
      have ha0 := s0 _ _ ha
      have nap : a ≠ p := ne_of ha0 hpk (by intro z; cases z)
      refine seqi fun k0 hk0 => ?_
      walk_at "rd"
      refine ⟨_, .inl (.inl ha0), p, c, _, t, rfl, hP0, by omega, by rw [List.length_map]; omega, lg_small (by rw [List.length_map]; omega), fun r1 H1 r10 r11 P1 b1 => ?_⟩
      refine ⟨p, c, 9, t + 1, rfl, P1, by omega, by decide, by decide, fun wy H2 w0 w1 P2 b2 => ⟨_, _, ⟨rfl, rfl⟩, ?_⟩⟩
      obtain ⟨i, rfl⟩ : ∃ i : Nat, r1 = (i : Int) := ⟨r1.toNat, by omega⟩
      have hi : i < ls.length := by rw [List.length_map] at r11; omega
      have bb2 := b1.trans b2
      have ha2 := bb2.1 _ _ ha0 nap
      have hl : ls[i]? = some ls[i] := List.getElem?_eq_getElem hi
      obtain ⟨hc, hlb⟩ := ok.each _ (List.getElem_mem hi)
      have big : 100000 ≤ sizeLine := by decide
      subst hk0
      refine seqi fun k0 hk0 => ?_
      walk_at "rd"
      refine ⟨_, .inl (.inl ha2), _, atI_nat (j := i) (v := .str ls[i]) (by rw [List.getElem?_map, hl]; rfl), ⟨_, rfl⟩, _, rfl, rfl, by omega, fun l3 n3 => ?_⟩
      have hjw := jl_split ls[i]
      have hsp := split_ne ls[i]
      have hcw : ∀ w ∈ Txt.split ls[i] " ", chs w := fun w hw => chs_split hc hw
      generalize hW : Txt.split ls[i] " " = W at *
      have lW : W.length ≤ jl W := by
        unfold jl
        omega
      have s3 := same_new (o := HO.lst (W.map V.str)) n3
      have hl3 : (upd H2 l3 (HO.lst (W.map V.str))) l3 = some (.lst (W.map V.str)) := upd_same
      generalize upd H2 l3 (HO.lst (W.map V.str)) = H3 at s3 hl3 ⊢
      have P3 := P2.same s3
      obtain ⟨kvs3, hpk3⟩ := P3.dict
      have nl3 : l3 ≠ p := ne_of hl3 hpk3 (by intro z; cases z)
      subst hk0
      refine seqi fun k0 hk0 => ?_
      walk_at "rd"
      refine ⟨_, .inl (.inl hl3), p, c, _, t + 2, rfl, P3, by omega, by rw [List.length_map]; omega, lg_small (by rw [List.length_map]; omega), fun sp H4 sp0 sp1 P4 b4 => ?_⟩
      obtain ⟨j, rfl⟩ : ∃ j : Nat, sp = (j : Int) := ⟨sp.toNat, by omega⟩
      have hj : j < W.length := by rw [List.length_map] at sp1; omega
      have hl4 := b4.1 _ _ hl3 nl3
      have ha4 := b4.1 _ _ (s3 _ _ ha2) nap
      have bb4 := (bb2.trans (But.of s3)).trans b4
      subst hk0
      refine seqi fun k0 hk0 => ?_
      walk_at "rd"
      have lg1 := PySem.Flt.log2_lt_of (k := 20) (by decide) (show (((ls.map V.str).length : Nat) : Int).natAbs < 2 ^ 20 by rw [List.length_map]; omega)
      have lg2 := PySem.Flt.log2_lt_of (k := 20) (by decide) (show ((((ls.map V.str).length : Nat) : Int) - 1).natAbs < 2 ^ 20 by rw [List.length_map]; omega)
      refine ⟨_, .inl (.inl ha4), by omega, _, .inl (.inl ha4), by omega, mulOk_of 1 30 (by decide) (by decide) (by decide) (by decide) (by decide), Nat.le_of_lt (small1000 (show 12 ≤ 1000 by decide)), fun l5 n5 => ?_⟩
      rw [List.length_map]
      have s5 := same_new (o := HO.lst ((oddS (ls.length : Nat)).map V.str)) n5
      have hl5 : (upd H4 l5 (HO.lst ((oddS (ls.length : Nat)).map V.str))) l5 = some (.lst ((oddS (ls.length : Nat)).map V.str)) := upd_same
      have hodd : ([V.str (Str.ofString ""), V.str (Str.ofString "-1"), V.str (Str.ofString "00"), V.str (Str.ofString "01"), V.str (Str.ofString (toString ((ls.length : Nat) : Int))),
          V.str (Str.ofString (toString (((ls.length : Nat) : Int) - 1))), V.str (Str.ofString "x"), V.str (Str.ofString "+1"), V.str (Str.ofString "0"), V.str (Str.ofString " 0"), V.str (Txt.mul (Str.ofString "9") 30), V.str (Str.ofString "-0")] : List V) = (oddS (ls.length : Nat)).map V.str := rfl
      rw [hodd]
      generalize upd H4 l5 (HO.lst ((oddS (ls.length : Nat)).map V.str)) = H5 at s5 hl5 ⊢
      have P5 := P4.same s5
      have oko := odd_ok (n := ls.length) pos (by omega)
      subst hk0
      refine seqi fun k0 hk0 => ?_
      walk_at "rd"
      refine ⟨p, c, _, t + 3, (oddS (ls.length : Nat)).map .str, rfl, P5, by omega, .lst hl5 (dts_strs _), by rw [List.length_map]; exact (by decide : 0 < 12), by rw [List.length_map]; exact (by decide : 12 ≤ 900), fun vo H6 d hd hdv P6 b6 => ?_⟩
      obtain ⟨od, hod, rfl⟩ := List.mem_map.mp hd
      obtain rfl := hdv.txt
      obtain ⟨hoc, hol⟩ := oko od hod
      have hl6 := b6.1 _ _ (s5 _ _ hl4) nl3
      have ha6 := b6.1 _ _ (s5 _ _ ha4) nap
      have bb6 := (bb4.trans (But.of s5)).trans b6
      subst hk0
      refine seqi fun k0 hk0 => ?_
      have fin : ∀ (l : Addr) (W' : List Str) H7, Same H6 H7 → H7 l = some (.lst (W'.map V.str)) → (∀ w ∈ W', chs w) → jl W' ≤ jl W + 31 → k0 [some (.ref p), some (.ref a), some (.int (i : Int)), some (.int wy), some (.ref l), some (.int (j : Int)), some (.ref l5), some (.str od)] H7 := fun l W' H7 s7 hl7 hc7 hj7 => by
        subst hk0
        refine seqi fun k0 hk0 => ?_
        have bb7 := bb6.trans (But.of s7)
        have P7 := P6.same s7
        have dL : Dt H7 (.ref a) (.list (ls.map .str)) := .lst (s7 _ _ ha6) (dts_strs _)
        have dW : Dt H7 (.ref l) (.list (W'.map .str)) := .lst hl7 (dts_strs _)
        have don : ∀ (v : V) (ls' : List Str) H8, Same H7 H8 → OkLs (m + 1) (b + 32) ls' → Dt H8 v (.list (ls'.map .str)) → Q v H8 := fun v ls' H8 s8 o8 hv => q v ls' H8 o8 hv ((P7.same s8).mono (by omega)) (((But.of s0).trans bb7).trans (But.of s8))
        have okt : ∀ n : Nat, ∀ x ∈ ls.take n, chs x ∧ x.length ≤ b + 32 := fun n x hx => by
          have := ok.each x (List.mem_of_mem_take hx)
          exact ⟨this.1, by omega⟩
        have okd : ∀ n : Nat, ∀ x ∈ ls.drop n, chs x ∧ x.length ≤ b + 32 := fun n x hx => by
          have := ok.each x (List.mem_of_mem_drop hx)
          exact ⟨this.1, by omega⟩
        refine if_eq rfl (fun e6 => ?_) (fun n6 => ?_)
        · refine s_retD (d_cat (d_to (k := i) (d_var rfl dL) (d_var rfl (.int _))) (d_from (k := i + 1) (d_var rfl dL) (d_succ (d_var rfl (.int _)))) (by simp only [List.length_take, List.length_drop, List.length_map]; omega)) fun v H8 s8 hv => ?_
          rw [← List.map_take, ← List.map_drop, ← List.map_append] at hv
          refine don v _ H8 s8 ⟨by simp only [List.length_append, List.length_take, List.length_drop]; omega, fun x hx => ?_⟩ hv
          rcases List.mem_append.mp hx with hx | hx
          · exact okt _ x hx
          · exact okd _ x hx
        · subst hk0
          refine nxt ?_
          dsimp only
          refine seqi fun k0 hk0 => ?_
          refine if_eq rfl (fun e7 => ?_) (fun n7 => ?_)
          · refine s_retD (d_cat (d_cat (d_to (k := i) (d_var rfl dL) (d_var rfl (.int _))) (d_lst (d_cons (d_at (k := i) (d := .str ls[i]) (d_var rfl dL) (d_var rfl (.int _)) (by rw [List.getElem?_map, hl]; rfl)) d_nil) (by decide : 1 ≤ 1000)) (by simp only [List.length_take, List.length_map, List.length_cons, List.length_nil]; omega)) (d_from (k := i) (d_var rfl dL) (d_var rfl (.int _))) (by simp only [List.length_append, List.length_cons, List.length_nil, List.length_take, List.length_drop, List.length_map]; omega)) fun v H8 s8 hv => ?_
            rw [← List.map_take, ← List.map_drop, show [PyData.str ls[i]] = [ls[i]].map PyData.str from rfl, ← List.map_append, ← List.map_append] at hv
            refine don v _ H8 s8 ⟨by simp only [List.length_append, List.length_cons, List.length_nil, List.length_take, List.length_drop]; omega, fun x hx => ?_⟩ hv
            rcases List.mem_append.mp hx with hx | hx
            · rcases List.mem_append.mp hx with hx | hx
              · exact okt _ x hx
              · rw [List.mem_singleton.mp hx]
                exact ⟨hc, by omega⟩
            · exact okd _ x hx
          · subst hk0
            refine nxt ?_
            dsimp only
            have hnum : (if decide (wy = 8) = true then (1 : Int) else 0).toNat ≤ 1 := by
              cases decide (wy = 8) <;> decide
            have hn0 : (0 : Int) ≤ (if decide (wy = 8) = true then (1 : Int) else 0) ∧ (if decide (wy = 8) = true then (1 : Int) else 0) ≤ 1 := by
              cases decide (wy = 8) <;> decide
            have hrep : ∀ n : Nat, (List.replicate n [PyData.str ""]).flatten = (List.replicate n ("" : Str)).map PyData.str := fun n => by
              induction n with
              | zero => rfl
              | succ n ih =>
                rw [List.replicate_succ, List.flatten_cons, ih, List.replicate_succ]
                rfl
            have hjl := jl_join W'
            have hlj : (Txt.join " " W').length ≤ b + 32 := by omega
            have hWl : W'.length ≤ jl W' := by
              unfold jl
              omega
            have hWs : (W'.map (·.length)).sum + W'.length * (" " : Str).length ≤ 16777216 := by
              have e1 : (" " : Str).length = 1 := rfl
              have : jl W' = (W'.map (·.length)).sum + W'.length := rfl
              rw [e1]
              omega
            generalize hnn : (if decide (wy = 8) = true then (1 : Int) else 0) = nn at hnum hn0
            refine s_retD (d_cat (d_cat (d_cat (d_to (k := i) (d_var rfl dL) (d_var rfl (.int _))) (d_lst (d_cons (d_join (d_var rfl dW) hWs) d_nil) (by decide : 1 ≤ 1000)) (by simp only [List.length_take, List.length_map, List.length_cons, List.length_nil]; omega)) (d_rep (i := nn) (d_lst (d_cons d_str d_nil) (by decide : 1 ≤ 1000)) (hnn ▸ d_intB (d_eqI (d_var rfl (.int _)) d_int)) (by simp only [List.length_cons, List.length_nil]; omega) (by omega) (by omega)) (by rw [hrep]; simp only [List.length_append, List.length_cons, List.length_nil, List.length_take, List.length_drop, List.length_map, List.length_replicate]; omega)) (d_from (k := i + 1) (d_var rfl dL) (d_succ (d_var rfl (.int _)))) (by rw [hrep]; simp only [List.length_append, List.length_cons, List.length_nil, List.length_take, List.length_drop, List.length_map, List.length_replicate]; omega)) fun v H8 s8 hv => ?_
            rw [hrep, ← List.map_take, ← List.map_drop, show [PyData.str (Txt.join " " W')] = [Txt.join " " W'].map PyData.str from rfl, ← List.map_append, ← List.map_append, ← List.map_append] at hv
            refine don v _ H8 s8 ⟨by simp only [List.length_append, List.length_cons, List.length_nil, List.length_take, List.length_drop, List.length_replicate]; omega, fun x hx => ?_⟩ hv
            rcases List.mem_append.mp hx with hx | hx
            · rcases List.mem_append.mp hx with hx | hx
              · rcases List.mem_append.mp hx with hx | hx
                · exact okt _ x hx
                · rw [List.mem_singleton.mp hx]
                  exact ⟨chs_join hc7, hlj⟩
              · rw [List.eq_of_mem_replicate hx]
                exact ⟨(by unfold chs; decide +kernel), Nat.zero_le _⟩
            · exact okd _ x hx
      have dW : Dt H6 (.ref l3) (.list (W.map .str)) := .lst hl6 (dts_strs _)
      have fin2 : ∀ (v : V) (jj : Nat) H7, j ≤ jj → Same H6 H7 → Dt H7 v (.list ((W.map .str).take j ++ [.str od] ++ (W.map .str).drop jj)) → k0 [some (.ref p), some (.ref a), some (.int (i : Int)), some (.int wy), some v, some (.int (j : Int)), some (.ref l5), some (.str od)] H7 := fun v jj H7 hjj s7 hv => by
        rw [← List.map_take, ← List.map_drop, show [PyData.str od] = [od].map PyData.str from rfl, ← List.map_append, ← List.map_append] at hv
        obtain ⟨l, xs, rfl, hl7, hx7⟩ := hv.list
        obtain rfl := hx7.strs
        refine fin l _ H7 s7 hl7 (fun w hw => ?_) ?_
        · rcases List.mem_append.mp hw with hw | hw
          · rcases List.mem_append.mp hw with hw | hw
            · exact hcw w (List.mem_of_mem_take hw)
            · rw [List.mem_singleton.mp hw]
              exact hoc
          · exact hcw w (List.mem_of_mem_drop hw)
        · rw [jl_app, jl_app, jl_one]
          have := jl_cut W j jj hjj
          omega
      refine if_lt rfl (fun hw4 => ?_) (fun hw4 => if_eq rfl (fun hw5 => ?_) (fun hw5 => if_eq rfl (fun hw6 => ?_) (fun hw6 => ?_)))
      · exact s_asgD (d_cat (d_cat (d_to (k := j) (d_var rfl dW) (d_var rfl (.int _))) (d_lst (d_cons (d_var rfl (.str od)) d_nil) (by decide : 1 ≤ 1000)) (by simp only [List.length_take, List.length_map, List.length_cons, List.length_nil]; omega)) (d_from (k := j + 1) (d_var rfl dW) (d_succ (d_var rfl (.int _)))) (by simp only [List.length_append, List.length_cons, List.length_nil, List.length_take, List.length_drop, List.length_map]; omega)) fun v H7 s7 hv => fin2 v (j + 1) H7 (Nat.le_succ _) s7 hv
      · refine s_asgD (d_cat (d_to (k := j) (d_var rfl dW) (d_var rfl (.int _))) (d_from (k := j + 1) (d_var rfl dW) (d_succ (d_var rfl (.int _)))) (by simp only [List.length_take, List.length_drop, List.length_map]; omega)) fun v H7 s7 hv => ?_
        rw [← List.map_take, ← List.map_drop, ← List.map_append] at hv
        obtain ⟨l, xs, rfl, hl7, hx7⟩ := hv.list
        obtain rfl := hx7.strs
        refine fin l _ H7 s7 hl7 (fun w hw => ?_) ?_
        · rcases List.mem_append.mp hw with hw | hw
          · exact hcw w (List.mem_of_mem_take hw)
          · exact hcw w (List.mem_of_mem_drop hw)
        · rw [jl_app]
          have := jl_cut W j (j + 1) (Nat.le_succ _)
          omega
      · exact s_asgD (d_cat (d_cat (d_to (k := j) (d_var rfl dW) (d_var rfl (.int _))) (d_lst (d_cons (d_var rfl (.str od)) d_nil) (by decide : 1 ≤ 1000)) (by simp only [List.length_take, List.length_map, List.length_cons, List.length_nil]; omega)) (d_from (k := j) (d_var rfl dW) (d_var rfl (.int _))) (by simp only [List.length_append, List.length_cons, List.length_nil, List.length_take, List.length_drop, List.length_map]; omega)) fun v H7 s7 hv => fin2 v j H7 (Nat.le_refl _) s7 hv
      · exact fin l3 W H6 (Same.refl _) hl6 hcw (by omega)
end
end Fp

namespace Fp
open PySem PySem.Spec PyProof.Rows L2 ClX
local macro_rules | `(tactic| walk_at "rd") => `(tactic| simp only [rOwnStr, tXf, tCMeth, dc_iR, fr_iE, tDIn, rStrI, rSplit, tM1, tTru, tOst, tChain, rRep, cxK, cxKn, tRet, tRetN, rIntI, rIntB, rLenL, rListL, rListT, rAbs, tDisp, tPairs, tC, tCB, tCons, tNil, tSl, tVar, tNoPart, tPart, rSlL, tOp, tAsg, gName, tIfS, tDrop, tTest, tAnd, tOr, Evl.tCut, tNot, tB, rI0, rI, rIxL, rIxT, rIxD, tDGet, sDPut, tLst, tTup, tBM, tBM0, tPar, rAppend, rPopAt, rPop, rExtend, rTupL, tCall, tNext, rAll, rOwnIn, rOwn2, rCat, lc_iL, lc_iT, lc_iK, lc_iR, lc_iE, fr_iL, fr_iT, fr_iR, tYes, rIn, rEq, rNe, gTup, gCons, gNil, wipe, tMeth, tFld, sFld, tMake, tProp, tIf, tAndV, tOrV, tNotV, tTru, rIsi, rSum, tRevL, rU, tUn, rIxS, iEnum, if_true, if_false, Bool.false_eq_true, List.map_cons, List.map_nil, List.nil_append, List.append_nil, List.cons_append, List.getElem?_cons_zero, List.getElem?_cons_succ, Option.some.injEq, exists_and_left, exists_eq_left', exists_eq_left, List.cons.injEq, and_true, true_and, V.ref.injEq, V.int.injEq, V.str.injEq, V.bl.injEq, List.set_cons_zero, List.set_cons_succ])

def spLRead : Sp := fun vs H Q _ => ∃ t ls, vs = [.str t] ∧ linesOf t = ls ∧ t.length + 2 ≤ sizeLine ∧ OkLs 70 6000 ls ∧
  (firstW ls ≠ 0 → ∀ v H', Same H H' → Dt H' v (.tuple [.int (firstW ls : Nat), .bool true]) → Q v H') ∧
  (firstW ls = 0 → ∀ (M : List (List Int)) v H', M.length = ls.length → ls.length ≤ 60 → ls.map (fun l => Txt.split l " ") = M.map (fun r => r.map nS) → (∀ r ∈ M, r.length = M.length) → (∀ r ∈ M, ∀ z ∈ r, OkV M.length z) → Same H H' → Dt H' v (.tuple [.int 0, .str (tabT M), mD M]) → Q v H')
section
variable {K : PySem.W.Frag} {P : Program} {w : World} {base : Heap} {mg : Str → Option Value} {C FE CT CV CS CB CL : Addr} {Cs : List Addr}
abbrev s__law_read : Stmt := topS 21
theorem sc__law_read : FnScope ["text", "made", "e"] ["text"] (defScope s__law_read) := ⟨rfl, rfl, rfl, by decide +kernel, rfl, by decide +kernel, by decide +kernel⟩
theorem ok_lread {f : Addr} {fd : FuncData} (F : Fun K "_law_read" "_law_read" s__law_read f fd) (TX : TxT K mg C) (M_read : Ce P w K mg base 6 C "read" (spRead C CB)) (M_str : Mn P w K mg base 1 C "__str__" ["self"] (spTStr C)) (D_rows : Dn P w K mg base 6 "_law_rows_of_table" ["made"] (spRows C))
    (G : EFam K FE Cs) (hCB : CB ∈ Cs) (hCL : CL ∈ Cs) (nBL : CB ≠ CL) (eBB : PySem.W.exmOne K (.ref CB) (.ref CB) = some true) (nB : PySem.W.findIn K (.ref CB) "line" = some none)
    (m_BadTable : mg "BadTable" = some (.ref CB)) (m_BadLoop : mg "BadLoop" = some (.ref CL)) (m_FoldError : mg "FoldError" = some (.ref FE)) (m_isinstance : mg "isinstance" = none) (m_ValueError : mg "ValueError" = none) (m_str : mg "str" = none) :
    FnOk P w K mg base CX0 7 f fd ["text"] spLRead := by
  refine F.ok sc__law_read (fun vs H Q E h => ?_) (fun cdv A outer s H vs Q E hr h => ?_)
  · obtain ⟨t, ls, rfl, _⟩ := h
    rfl
  · obtain ⟨t, ls, rfl, hls, ht, ok, q1, q0⟩ := h
    have m_Table := TX.mC
    refine ⟨_, pss_cons (ps_try_cl
      (tb := fun W D σ H => ∃ Ech : XK, (∀ cls d (σ' : L2.St) H', Ech cls d H' → σ'.length = 3 → W cls d σ' H') ∧ tAsg (tCMeth C (spRead C CB) Ech (tC (.ref C)) (tCons (tVar 0) tNil)) (gName 1) D σ H)
      rfl rfl sc__law_read.nd takes0 (fun W pn xe tk _ => ?_)
      (.cons (i := 2) (c := .ref CB) rfl rfl ⟨rfl, by decide, .inl m_BadTable⟩ (fun a oe cls d pn hz hf => pss_one (ps_ret (pe_tup (pa_cons (pe_xf (C := CB) (G.ec CB hCB).xf nB hz hf (pv 2)) (pa_cons (pe_and (pe_callB (call_isX (K := K) hz hf) (by rfl) m_isinstance (by decide +kernel) (pa_cons (pv 2) (pa_cons (pe_glob rfl m_FoldError (v := .ref FE) rfl) pa_nil))) (pe_and (pe_callB (call_isX (K := K) hz hf) (by rfl) m_isinstance (by decide +kernel) (pa_cons (pv 2) (pa_cons (pe_bltn (v := .ty "ValueError") rfl m_ValueError (by decide +kernel) rfl) pa_nil))) (pe_one (pe_not (pe_callB (call_isX (K := K) hz hf) (by rfl) m_isinstance (by decide +kernel) (pa_cons (pv 2) (pa_cons (pe_glob rfl m_BadLoop (v := .ref CL) rfl) pa_nil))))))) pa_nil))))) .nil))
      (pss_one (ps_ret (pe_tup (pa_cons pe_int (pa_cons (pe_callTy (call_ownStr M_str (hr.mono (by decide))) (by rfl) m_str (by decide +kernel) (pa_cons (pv 1) pa_nil)) (pa_cons (pd D_rows (hr.mono (by decide)) (by rfl) (pa_cons (pv 1) pa_nil)) pa_nil)))))), ?_⟩
    · exact pss_ex fun Ech hW => pss_one (ps_set (i := 1) sc__law_read.nd rfl (.inl rfl) (pce (E := Ech) M_read (hr.mono (by decide)) (passes_call (takes_len tk) fun cls d σ' H' h1 h2 => hW cls d σ' H' h1 h2) (pe_glob rfl m_Table (v := .ref C) rfl) (pa_cons (pv 0) pa_nil)))
    · show tSeq _ _ _ [some (.str t), none, none] H
      refine seqi fun k0 hk0 => ?_
      have exB := G.exc (C := CB) hCB
      have i1 : PySem.W.kitOne K (.ref CB) (.ref CL) = some false := by
        rw [G.is hCB hCL, decide_eq_false nBL]
      refine ⟨fun cls d H' => ∃ dd, d = some dd ∧ cls = .ref CB ∧ H' dd = some (.xd [("line", .int (firstW ls : Nat))]) ∧ firstW ls ≠ 0 ∧ Same H H', fun cls d σ' H' he hlen => ?_, ?_⟩
      · obtain ⟨dd, rfl, rfl, hd, hne, s1⟩ := he
        have hs1 : ∀ a : Addr, (σ'.set 2 (some (.ref a)))[2]? = some (some (.ref a)) := fun a => List.getElem?_set_self (by omega)
        refine ⟨true, eBB, fun _ a ha => ?_, fun z => absurd z (by decide)⟩
        dsimp only
        walk_at "rd"
        have hdd : ∀ dd', (some dd : Option Addr) = some dd' → ∃ fs, H' dd' = some (.xd fs) := fun dd' e => by cases e; exact ⟨_, hd⟩
        refine ⟨_, hs1 a, ?_⟩
        refine ⟨rfl, _, hd, _, rfl, .ref a, hs1 a, ?_⟩
        refine ⟨.ref FE, .ref FE, true, CB, rfl, rfl, fun u r => r, G.isF hCB, exB, hdd, true, rfl, iteT ?_⟩
        refine ⟨.ref a, hs1 a, ?_⟩
        refine ⟨.ty "ValueError", .type "ValueError", true, CB, rfl, rfl, fun u r => r, G.isVE hCB, exB, hdd, true, rfl, iteT ?_⟩
        refine ⟨.ref a, hs1 a, ?_⟩
        refine ⟨.ref CL, .ref CL, false, CB, rfl, rfl, fun u r => r, i1, exB, hdd, false, rfl, ?_⟩
        exact ⟨Nat.le_of_lt (small1000 (show 2 ≤ 1000 by decide)), fun p hp => q1 hne (.ref p) _ (Same.new s1 hp) (.tup upd_same (.cons (.int _) (.cons (.bl true) .nil)))⟩
      · walk_at "rd"
        refine ⟨t, ls, rfl, hls, ht, ok, fun hne d H' nd s hx => ⟨d, rfl, rfl, hx, hne, s⟩, fun h0 M tt H1 e1 e2 e3 e4 e5 s1 htb => ?_⟩
        subst hk0
        walk_at "rd"
        obtain ⟨dx, R, g1, g2⟩ := htb
        refine ⟨dx, _, g1, tt, M, rfl, ⟨dx, R, g1, g2⟩, ⟨by omega, fun r hr => ⟨by rw [e4 r hr]; omega, fun z hz => ⟨(e5 r hr z hz).1, by have := (e5 r hr z hz).2; omega⟩⟩⟩, fun H2 s2 => ?_⟩
        exact ⟨_, rfl, tt, M, rfl, ⟨dx, R, s2 _ _ g1, g2.same s2⟩, by omega, e4, fun D H3 hD s3 hd => ⟨Nat.le_of_lt (small1000 (show 3 ≤ 1000 by decide)), fun p hp => q0 h0 M (.ref p) _ e1 e2 e3 e4 e5 (Same.new ((s1.trans s2).trans s3) hp) (.tup upd_same (.cons (.int _) (.cons (.str _) (.cons (hd.same (same_new hp)) .nil))))⟩⟩
end
end Fp

namespace Fp
open PySem PySem.Spec PyProof.Rows L2 ClX
local macro_rules | `(tactic| walk_at "rd") => `(tactic| simp only [rIntS, rJoin, dc_iR, fr_iE, tDIn, rStrI, rSplit, tM1, tTru, tOst, tChain, rRep, cxK, cxKn, tRet, tRetN, rIntI, rIntB, rLenL, rListL, rListT, rAbs, tDisp, tPairs, tC, tCB, tCons, tNil, tSl, tVar, tNoPart, tPart, rSlL, tOp, tAsg, gName, tIfS, tDrop, tTest, tAnd, tOr, Evl.tCut, tNot, tB, rI0, rI, rIxL, rIxT, rIxD, tDGet, sDPut, tLst, tTup, tBM, tBM0, tPar, rAppend, rPopAt, rPop, rExtend, rTupL, tCall, tNext, rAll, rOwnIn, rOwn2, rCat, lc_iL, lc_iT, lc_iK, lc_iR, lc_iE, fr_iL, fr_iT, fr_iR, tYes, rIn, rEq, rNe, gTup, gCons, gNil, wipe, tMeth, tFld, sFld, tMake, tProp, tIf, tAndV, tOrV, tNotV, tTru, rIsi, rSum, tRevL, rU, tUn, rIxS, iEnum, if_true, if_false, Bool.false_eq_true, List.map_cons, List.map_nil, List.nil_append, List.append_nil, List.cons_append, List.getElem?_cons_zero, List.getElem?_cons_succ, Option.some.injEq, exists_and_left, exists_eq_left', exists_eq_left, List.cons.injEq, and_true, true_and, V.ref.injEq, V.int.injEq, V.str.injEq, V.bl.injEq, List.set_cons_zero, List.set_cons_succ])

theorem okS_lines {ls : List Str} (h : ∀ l ∈ ls, chs l) : OkS (Txt.join "\n" ls) := okS_iff.mpr fun c hc => by
  have hc : c ∈ TL.tl (Txt.join "\n" ls) := hc
  rw [TL.join_eq, TL.tl_join] at hc
  rcases of_joinL hc with hc | ⟨p, hp, hc⟩
  · have e : TL.tl ("\n" : Str) = [10] := rfl
    rw [e, List.mem_singleton] at hc
    omega
  · obtain ⟨w, hw, rfl⟩ := List.mem_map.mp hp
    have := (h w hw c hc).1
    omega
theorem firstW_zero {ls : List Str} (h : firstW ls = 0) : (∀ j < ls.length, wrongB ls j = false) ∧ ls ≠ [] := by
  unfold firstW at h
  cases hf : (List.range ls.length).find? (wrongB ls) with
  | some k =>
    rw [hf] at h
    exact absurd h (Nat.succ_ne_zero k)
  | none =>
    rw [hf] at h
    refine ⟨fun j hj => ?_, fun hz => ?_⟩
    · have := List.find?_range_eq_none.mp hf j hj
      simpa using this
    · rw [if_pos hz] at h
      cases h
theorem nS_map_inj : ∀ {r q : List Int}, (∀ z ∈ r, OkV 70 z) → (∀ z ∈ q, OkV 70 z) → r.map nS = q.map nS → r = q
  | [], [], _, _, _ => rfl
  | [], _ :: _, _, _, h => by cases h
  | _ :: _, [], _, _, h => by cases h
  | x :: r, y :: q, hr, hq, h => by
    rw [List.map_cons, List.map_cons, List.cons.injEq] at h
    have hx := hr x List.mem_cons_self
    have hy := hq y List.mem_cons_self
    obtain ⟨j, rfl⟩ : ∃ j : Nat, x = (j : Int) := ⟨x.toNat, by have := hx.1; omega⟩
    obtain ⟨k, rfl⟩ : ∃ k : Nat, y = (k : Int) := ⟨y.toNat, by have := hy.1; omega⟩
    rw [nS_inj j (by have := hx.2; omega) k (by have := hy.2; omega) h.1, nS_map_inj (fun z hz => hr z (List.mem_cons_of_mem _ hz)) (fun z hz => hq z (List.mem_cons_of_mem _ hz)) h.2]
theorem nS_mat_inj : ∀ {r q : List (List Int)}, (∀ x ∈ r, ∀ z ∈ x, OkV 70 z) → (∀ x ∈ q, ∀ z ∈ x, OkV 70 z) → r.map (fun x => x.map nS) = q.map (fun x => x.map nS) → r = q
  | [], [], _, _, _ => rfl
  | [], _ :: _, _, _, h => by cases h
  | _ :: _, [], _, _, h => by cases h
  | x :: r, y :: q, hr, hq, h => by
    rw [List.map_cons, List.map_cons, List.cons.injEq] at h
    rw [nS_map_inj (hr x List.mem_cons_self) (hq y List.mem_cons_self) h.1, nS_mat_inj (fun z hz => hr z (List.mem_cons_of_mem _ hz)) (fun z hz => hq z (List.mem_cons_of_mem _ hz)) h.2]
def szL : List Int := [1, 2, 3, 4, 5, 12, 11, 59, 60, 61]
theorem szL_ok : ∀ z ∈ szL, 1 ≤ z ∧ z ≤ 61 := by decide
def OkM (n : Nat) (E : List (List Int)) : Prop := E.length = n ∧ ∀ r ∈ E, r.length = n ∧ ∀ z ∈ r, OkV n z
theorem all_map {α : Type} {f : α → PyData} {P : α → Prop} : ∀ {ds : List PyData}, (∀ d ∈ ds, ∃ z, d = f z ∧ P z) → ∃ zs : List α, ds = zs.map f ∧ ∀ z ∈ zs, P z
  | [], _ => ⟨[], rfl, fun _ h => nomatch h⟩
  | d :: r, h => by
    obtain ⟨zs, rfl, hz⟩ := all_map (ds := r) fun x hx => h x (List.mem_cons_of_mem _ hx)
    obtain ⟨z, rfl, h1⟩ := h d List.mem_cons_self
    refine ⟨z :: zs, rfl, fun x hx => ?_⟩
    rcases List.mem_cons.mp hx with rfl | hx
    · exact h1
    · exact hz x hx
section
variable {K : PySem.W.Frag} {P : Program} {w : World} {base : Heap} {mg : Str → Option Value} {C FE CT CV CS CB CL : Addr} {Cs : List Addr}
abbrev s_law : Stmt := topS 22
theorem sc_law : FnScope ["script", "pen", "turn", "size", "rows", "lines", "k", "wrong", "text", "due", "a", "row", "b", "value", "line", "word"] ["script"] (defScope s_law) := ⟨rfl, rfl, rfl, by decide +kernel, rfl, by decide +kernel, by decide +kernel⟩
theorem ok_law {f : Addr} {fd : FuncData} (F : Fun K "law" "law" s_law f fd) (m_range : mg "range" = none) (m_len : mg "len" = none) (m_int : mg "int" = none) (m_str : mg "str" = none)
    (D_law_pen : Dn P w K mg base 1 "_law_pen" ["script"] (spPen K)) (D_law_draw : Dn P w K mg base 1 "_law_draw" ["pen", "span"] spDraw) (D_law_pick : Dn P w K mg base 2 "_law_pick" ["pen", "options"] spPick)
    (D_law_bent : Dn P w K mg base 3 "_law_bent" ["pen", "lines"] spBent) (D_law_wrong_line : Dn P w K mg base 1 "_law_wrong_line" ["lines"] spWrong) (D_law_read : Dn P w K mg base 7 "_law_read" ["text"] spLRead) :
    FnOk P w K mg base CX0 8 f fd ["script"] (spLaw K) := by
  refine F.ok sc_law (fun vs H Q E h => ?_) (fun cdv A outer s H vs Q E hr h => ?_)
  · obtain ⟨a, ns, rfl, _⟩ := h
    rfl
  · obtain ⟨a, ns, rfl, hS, hlen, q⟩ := h
    have hu64 := hr.units
    refine ⟨_, (pss_cons (ps_set (i := 1) sc_law.nd rfl (.inr rfl) (pd D_law_pen (hr.mono (by decide)) (by rfl) (pa_cons (pv 0) pa_nil)))
    (pss_cons (ps_for PassesOwn.never rfl (pi_range1 rfl m_range (pa_cons pe_int pa_nil)) (pg_name (i := 2) sc_law.nd rfl (.inr rfl))
      (pss_cons (ps_set (i := 3) sc_law.nd rfl (.inr rfl) (pd D_law_pick (hr.mono (by decide)) (by rfl) (pa_cons (pv 1) (pa_cons (pe_lst (pa_cons pe_int (pa_cons pe_int (pa_cons pe_int (pa_cons pe_int (pa_cons pe_int (pa_cons pe_int (pa_cons pe_int (pa_cons pe_int (pa_cons pe_int (pa_cons pe_int pa_nil))))))))))) pa_nil))))
        (pss_cons (ps_setLc (i := 4) (own := [("a", 10)]) rfl sc_law.nd rfl rfl (sw_true rfl rfl rfl (by decide +kernel)) (pi_range1 rfl m_range (pa_cons (pv 3) pa_nil)) (blkOk_by (by kernel_rfl)) (fun _ _ _ _ _ => (pg_name (i := 10) sc_law.nd rfl (.inr rfl))) (fun _ _ _ _ _ => pts_nil) (fun _ _ _ _ _ => (pe_lc (own := [("b", 12)]) rfl sc_law.nd (pi_range1 rfl m_range (pa_cons (pv 3) pa_nil)) (blkOk_by (by kernel_rfl)) (fun _ _ _ _ _ => (pg_name (i := 12) sc_law.nd rfl (.inl rfl))) (fun _ _ _ _ _ => pts_nil) (fun _ _ _ _ _ => (pe_op op_mod (pe_callTy call_intI (by rfl) m_int (by decide +kernel) (pa_cons (pe_op op_add (pe_op op_mul (pv 10) (pe_op op_add (pv 2) pe_int)) (pv 12)) pa_nil)) (pv 3))))))
        (pss_cons (ps_if (pt_cmpR op_lt (pv 3) pe_int (nomark _))
      (pss_one (ps_setLc (i := 4) (own := [("a", 10)]) rfl sc_law.nd rfl rfl (sw_true rfl rfl rfl (by decide +kernel)) (pi_range1 rfl m_range (pa_cons (pv 3) pa_nil)) (blkOk_by (by kernel_rfl)) (fun _ _ _ _ _ => (pg_name (i := 10) sc_law.nd rfl (.inl rfl))) (fun _ _ _ _ _ => pts_nil) (fun _ _ _ _ _ => (pe_lc (own := [("b", 12)]) rfl sc_law.nd (pi_range1 rfl m_range (pa_cons (pv 3) pa_nil)) (blkOk_by (by kernel_rfl)) (fun _ _ _ _ _ => (pg_name (i := 12) sc_law.nd rfl (.inl rfl))) (fun _ _ _ _ _ => pts_nil) (fun _ _ _ _ _ => (pd D_law_draw (hr.mono (by decide)) (by rfl) (pa_cons (pv 1) (pa_cons (pv 3) pa_nil))))))))
      pss_nil)
        (pss_cons (ps_setLc (i := 5) (own := [("row", 11)]) rfl sc_law.nd rfl rfl (sw_true rfl rfl rfl (by decide +kernel)) (pi_listK K (pv 4)) (blkOk_by (by kernel_rfl)) (fun _ _ _ _ _ => (pg_name (i := 11) sc_law.nd rfl (.inl rfl))) (fun _ _ _ _ _ => pts_nil) (fun _ _ _ _ _ => (pe_joinK K pe_str (pe_lc (own := [("value", 13)]) rfl sc_law.nd (pi_listK K (pv 11)) (blkOk_by (by kernel_rfl)) (fun _ _ _ _ _ => (pg_name (i := 13) sc_law.nd rfl (.inl rfl))) (fun _ _ _ _ _ => pts_nil) (fun _ _ _ _ _ => (pe_callTy call_strI (by rfl) m_str (by decide +kernel) (pa_cons (pv 13) pa_nil)))))))
        (pss_cons (ps_for PassesOwn.never rfl (pi_range1 rfl m_range (pa_cons (pd D_law_draw (hr.mono (by decide)) (by rfl) (pa_cons (pv 1) (pa_cons pe_int pa_nil))) pa_nil)) (pg_name (i := 6) sc_law.nd rfl (.inl rfl))
      (pss_one (ps_set (i := 5) sc_law.nd rfl (.inl rfl) (pd D_law_bent (hr.mono (by decide)) (by rfl) (pa_cons (pv 1) (pa_cons (pv 5) pa_nil))))))
        (pss_cons (ps_set (i := 5) sc_law.nd rfl (.inl rfl) (pe_ifExp (pt_cmpR (op_eqDK K hu64) (pv 5) (pe_lst (pa_cons pe_str pa_nil)) (nomark _)) (pe_lst pa_nil) (pv 5)))
        (pss_cons (ps_par (i := 7) (j := 8) rfl sc_law.nd rfl rfl (by decide) rfl rfl (pa_cons (pd D_law_wrong_line (hr.mono (by decide)) (by rfl) (pa_cons (pv 5) pa_nil)) (pa_cons (pe_joinK K pe_str (pv 5)) pa_nil)) rfl)
        (pss_cons (ps_set (i := 9) sc_law.nd rfl (.inl rfl) (pe_tup (pa_cons (pv 7) (pa_cons pe_bl pa_nil))))
        (pss_cons (ps_if (pt_cmpR op_eq (pv 7) pe_int (nomark _))
      (pss_one (ps_set (i := 9) sc_law.nd rfl (.inl rfl) (pe_tup (pa_cons pe_int (pa_cons (pv 8) (pa_cons (pe_lc (own := [("line", 14)]) rfl sc_law.nd (pi_listK K (pv 5)) (blkOk_by (by kernel_rfl)) (fun _ _ _ _ _ => (pg_name (i := 14) sc_law.nd rfl (.inl rfl))) (fun _ _ _ _ _ => pts_nil) (fun _ _ _ _ _ => (pe_lc (own := [("word", 15)]) rfl sc_law.nd (pi_listK K (pe_splitK (pv 14) pe_str)) (blkOk_by (by kernel_rfl)) (fun _ _ _ _ _ => (pg_name (i := 15) sc_law.nd rfl (.inl rfl))) (fun _ _ _ _ _ => pts_nil) (fun _ _ _ _ _ => (pe_callTy call_intS (by rfl) m_int (by decide +kernel) (pa_cons (pv 15) pa_nil)))))) pa_nil))))))
      pss_nil)
        (pss_one (ps_if (pt_cmpR (op_neDK K hu64) (pd D_law_read (hr.mono (by decide)) (by rfl) (pa_cons (pv 8) pa_nil)) (pv 9) (nomark _))
      (pss_one (ps_ret pe_bl))
      pss_nil))))))))))))
    (pss_one (ps_ret pe_bl)))), ?_⟩
    show tSeq _ _ _ [some (.ref a), none, none, none, none, none, none, none, none, none, none, none, none, none, none, none] H
    refine seqi fun k0 hk0 => ?_
    walk_at "rd"
    refine ⟨a, ns, rfl, hS, hlen, fun H1 p c np e1 P1 => ?_⟩
    subst hk0
    refine seqi fun k0 hk0 => ?_
    walk_at "rd"
    refine ⟨by decide, by decide, ?_⟩
    refine forg_by (jseq_rng 0 6) (fun i σ' H' => (∃ y2 y3 y4 y5 y6 y7 y8 y9, σ' = [some (.ref a), some (.ref p), y2, y3, y4, y5, y6, y7, y8, y9, none, none, none, none, none, none]) ∧ PenOk H' p c (200 * i))
      ⟨⟨none, none, none, none, none, none, none, none, rfl⟩, P1.mono (by omega)⟩ (fun i σ' H' _ h => trivial) (fun i x σ' H4 hx h => ?_) (fun σ' H' h => ?_)
    · obtain ⟨⟨y2, y3, y4, y5, y6, y7, y8, y9, rfl⟩, P4⟩ := h
      have hi : i < 6 := by
        have := (List.getElem?_eq_some_iff.mp hx).1
        rw [rngV_len] at this
        exact this
      obtain rfl : x = .int (0 + (i : Int)) := by rw [rngV_at hi] at hx; cases hx; rfl
      rw [Int.zero_add]
      walk_at "rd"
      refine seqi fun k1 hk1 => ?_
      walk_at "rd"
      refine ⟨Nat.le_of_lt (small1000 (show 10 ≤ 1000 by decide)), fun l0 n0 => ?_⟩
      have s0 := same_new (o := HO.lst (szL.map V.int)) n0
      refine ⟨p, c, .ref l0, _, szL.map .int, rfl, P4.same s0, by omega, .lst upd_same (dts_ints szL), by decide, by decide, fun v H5 d hd hv P5 b5 => ?_⟩
      obtain ⟨sz, hsz, rfl⟩ := List.mem_map.mp hd
      obtain rfl := hv.num
      have hsz2 := szL_ok sz hsz
      obtain ⟨n, rfl⟩ : ∃ n : Nat, sz = (n : Int) := ⟨sz.toNat, by omega⟩
      clear s0 b5 hv hd hsz
      subst hk1
      refine seqi fun k1 hk1 => ?_
      walk_at "rd"
      refine ⟨by omega, by omega, ?_⟩
      rw [Int.toNat_natCast]
      refine lcg_dt (jseq_rng 0 n) trivial (List.range n) (fun j => .int (0 + j)) (dts_rng n) (by rw [List.length_range]; omega) (fun j => .list (((List.range n).map fun (b : Nat) => (((j : Int) * ((i : Int) + 2) + (b : Int)) % (n : Int))).map PyData.int)) (fun D z j hj hz H6 e6 hD6 S1 S0 t1 => ?_) (fun D H6 hD6 e6 hd6 => ?_)
      · obtain rfl := hz.num
        have hj := List.mem_range.mp hj
        walk_at "rd"
        refine ⟨by omega, by omega, ?_⟩
        rw [Int.toNat_natCast]
        refine lcg_old (jseq_rng 0 n) trivial (List.range n) (fun b => .int (0 + b)) (dts_rng n) (by rw [List.length_range]; omega) (fun _ => true) (fun b => .int (((j : Int) * ((i : Int) + 2) + (b : Int)) % (n : Int))) (fun x b hb hx H7 e7 T1 T0 u1 u0 => ?_) (fun D7 H7 hD7 e7 hd7 => ?_)
        · obtain rfl := hx.num
          walk_at "rd"
          rw [Int.zero_add, Int.zero_add]
          exact ⟨.inl ⟨by omega, by omega⟩, show (0 : Int) < n by omega, u1 rfl _ _ (Same.refl _) (.int _)⟩
        · rw [List.filter_eq_self.mpr (fun _ _ => rfl), show (List.range n).map (fun (b : Nat) => PyData.int (((j : Int) * ((i : Int) + 2) + (b : Int)) % (n : Int))) = ((List.range n).map fun (b : Nat) => (((j : Int) * ((i : Int) + 2) + (b : Int)) % (n : Int))).map PyData.int by rw [List.map_map]; rfl] at hd7
          obtain ⟨D8, ys, eD, hD8, hys⟩ := hd7.list
          cases eD
          obtain rfl := hys.ints
          exact t1 _ _ e7 (.lst (by rw [del_ne (fun z => hD6 (by rw [← z]; exact hD7))]; exact hD8) (dts_ints _))
      · have hE : OkM n ((List.range n).map fun (j : Nat) => (List.range n).map fun (b : Nat) => (((j : Int) * ((i : Int) + 2) + (b : Int)) % (n : Int))) := by
          refine ⟨by rw [List.length_map, List.length_range], fun r hr => ?_⟩
          obtain ⟨j, _, rfl⟩ := List.mem_map.mp hr
          refine ⟨by rw [List.length_map, List.length_range], fun z hz => ?_⟩
          obtain ⟨b, _, rfl⟩ := List.mem_map.mp hz
          exact ⟨Int.emod_nonneg _ (by omega), Int.emod_lt_of_pos _ (by omega)⟩
        rw [show (List.range n).map (fun (j : Nat) => PyData.list (((List.range n).map fun (b : Nat) => (((j : Int) * ((i : Int) + 2) + (b : Int)) % (n : Int))).map PyData.int)) = ((List.range n).map fun (j : Nat) => (List.range n).map fun (b : Nat) => (((j : Int) * ((i : Int) + 2) + (b : Int)) % (n : Int))).map fun r => PyData.list (r.map PyData.int) by rw [List.map_map]; rfl] at hd6
        generalize ((List.range n).map fun (j : Nat) => (List.range n).map fun (b : Nat) => (((j : Int) * ((i : Int) + 2) + (b : Int)) % (n : Int))) = E0 at hE hd6
        have P6 := P5.same e6
        subst hk1
        refine seqi fun k1 hk1 => ?_
        have fin : ∀ (D : Addr) H7 E0, OkM n E0 → Dt H7 (.ref D) (mD E0) → PenOk H7 p c (200 * i + 130) → k1 [some (.ref a), some (.ref p), some (.int (i : Int)), some (.int (n : Int)), some (.ref D), y5, y6, y7, y8, y9, none, none, none, none, none, none] H7 := fun D H7 E0 hE hd7 P7 => by
          subst hk1
          refine seqi fun k1 hk1 => ?_
          walk_at "rd"
          obtain ⟨D', xs, eD, hDx, hxs⟩ := hd7.list
          cases eD
          refine ⟨⟨_, .inl (.inl hDx)⟩, ?_⟩
          obtain ⟨lE, hE2⟩ := hE
          have okE : ∀ r ∈ E0, r.length ≤ 64 ∧ ∀ z ∈ r, OkV 100 z := fun r hr => ⟨by rw [(hE2 r hr).1]; omega, fun z hz => ⟨((hE2 r hr).2 z hz).1, by have := ((hE2 r hr).2 z hz).2; omega⟩⟩
          refine lcg_dt (jseq_list K _ _) (.inl (.inl hDx)) E0 (fun r => .list (r.map PyData.int)) hxs (by omega) (fun r => .str (rowT r)) (fun D8 x r hr hx H8 e8 hD8 S1 S0 s1 => ?_) (fun D8 H8 hD8 e8 hd8 => ?_)
          · obtain ⟨rr, zs, rfl, hrr, hzs⟩ := hx.list
            obtain rfl := hzs.ints
            obtain ⟨hr1, hr2⟩ := okE r hr
            walk_at "rd"
            refine ⟨⟨_, rfl⟩, ⟨_, .inl (.inl (e8 _ _ hrr))⟩, ?_⟩
            refine lcg_old (jseq_list K _ _) (.inl (.inl (e8 _ _ hrr))) r (fun z => .int z) (dts_ints r) (by omega) (fun _ => true) (fun z => .str (nS z)) (fun x z hz hx H2 e2 T1 T0 t1 t0 => ?_) (fun D2 H3 hD2 e3 hd => ?_)
            · obtain rfl := hx.num
              have oz := hr2 z hz
              walk_at "rd"
              refine ⟨?_, t1 rfl _ _ (Same.refl _) (.str _)⟩
              have h1 := oz.1
              have h2 := oz.2
              have := PySem.Flt.log2_lt_of (k := 20) (by decide) (show z.natAbs < 2 ^ 20 by omega)
              omega
            · rw [List.filter_eq_self.mpr (fun _ _ => rfl)] at hd
              obtain ⟨D2', ys, eD, hD2', hys⟩ := hd.list
              cases eD
              rw [show r.map (fun z => PyData.str (nS z)) = (r.map nS).map PyData.str by rw [List.map_map]; rfl] at hys
              obtain rfl := hys.strs
              refine ⟨D2, rfl, r.map nS, .inl (.inl hD2'), ?_, s1 _ _ e3 (.str _)⟩
              have h1 := sum_le (l := (r.map nS).map (·.length)) (b := 2) fun x hx => by
                obtain ⟨y, hy, rfl⟩ := List.mem_map.mp hx
                obtain ⟨z, hz, rfl⟩ := List.mem_map.mp hy
                exact nS_len (hr2 z hz)
              rw [List.length_map, List.length_map] at h1
              rw [List.length_map, show (" " : Str).length = 1 from rfl]
              omega
          · rw [show E0.map (fun r => PyData.str (rowT r)) = (E0.map rowT).map PyData.str by rw [List.map_map]; rfl] at hd8
            have okl : OkLs 61 192 (E0.map rowT) := ⟨by rw [List.length_map]; omega, fun l hl => by
              obtain ⟨r, hr, rfl⟩ := List.mem_map.mp hl
              refine ⟨chs_join fun w hw => ?_, rowT_len (okE r hr)⟩
              obtain ⟨z, hz, rfl⟩ := List.mem_map.mp hw
              have oz := (okE r hr).2 z hz
              obtain ⟨k, rfl⟩ : ∃ k : Nat, z = (k : Int) := ⟨z.toNat, by have := oz.1; omega⟩
              exact nS_chs k (by have := oz.2; omega)⟩
            generalize E0.map rowT = ls0 at okl hd8
            have P8 := P7.same e8
            subst hk1
            refine seqi fun k1 hk1 => ?_
            walk_at "rd"
            refine ⟨p, c, 3, _, rfl, P8, by omega, by decide, by decide, fun r9 H9 r0 r1 P9 b9 => ⟨_, rfl, by omega, by omega, ?_⟩⟩
            obtain ⟨kvs8, hp8⟩ := P8.dict
            have hd9 := hd8.but hp8 b9
            obtain ⟨m, rfl⟩ : ∃ m : Nat, r9 = (m : Int) := ⟨r9.toNat, by omega⟩
            rw [Int.toNat_natCast]
            refine forg_by (jseq_rng 0 m) (fun j σ' H' => ∃ v y6 ls, σ' = [some (.ref a), some (.ref p), some (.int (i : Int)), some (.int (n : Int)), some (.ref D), some v, y6, y7, y8, y9, none, none, none, none, none, none] ∧ OkLs (61 + j) (192 + 32 * j) ls ∧ Dt H' v (.list (ls.map .str)) ∧ PenOk H' p c (200 * i + 131 + 5 * j))
              ⟨_, _, ls0, rfl, okl, hd9, P9.mono (by omega)⟩ (fun _ _ _ _ _ => trivial) (fun j x σ' H' hx h => ?_) (fun σ' H' h => ?_)
            · obtain ⟨v, y6, ls, rfl, okj, hvj, Pj⟩ := h
              have hj : j < m := by
                have := (List.getElem?_eq_some_iff.mp hx).1
                rw [rngV_len] at this
                exact this
              walk_at "rd"
              refine ⟨p, c, v, _, _, _, ls, rfl, Pj, by omega, hvj, okj, by omega, by omega, fun v' ls' H10 o10 hv10 P10 b10 => ?_⟩
              exact ⟨v', _, ⟨rfl, rfl⟩, ls', ⟨by have := o10.many; omega, fun l hl => ⟨(o10.each l hl).1, by have := (o10.each l hl).2; omega⟩⟩, hv10, P10.mono (by omega)⟩
            · obtain ⟨v, y6, ls, rfl, okm, hvm, Pm⟩ := h
              rw [rngV_len] at okm Pm
              have hm3 : m < 3 := by omega
              have hm3' : 61 + m ≤ 63 := by omega
              have okm : OkLs 63 256 ls := ⟨by have := okm.many; omega, fun l hl => ⟨(okm.each l hl).1, by have := (okm.each l hl).2; omega⟩⟩
              have Pm := Pm.mono (show 200 * i + 131 + 5 * m ≤ 200 * i + 150 by omega)
              have hfirst := okm.many
              subst hk1
              dsimp only
              refine seqi fun k1 hk1 => ?_
              have fin2 : ∀ (v : V) (ls : List Str) H1, OkLs 63 256 ls → ls ≠ [("" : Str)] → Dt H1 v (.list (ls.map .str)) → PenOk H1 p c (200 * i + 150) → k1 [some (.ref a), some (.ref p), some (.int (i : Int)), some (.int (n : Int)), some (.ref D), some v, y6, y7, y8, y9, none, none, none, none, none, none] H1 := fun v ls H1 ok1 hne hv P1 => by
                subst hk1
                refine seqi fun k1 hk1 => ?_
                walk_at "rd"
                obtain ⟨av, xs, rfl, hav, hxs⟩ := hv.list
                obtain rfl := hxs.strs
                have ok7 : OkLs 70 6000 ls := ⟨by have := ok1.many; omega, fun l hl => ⟨(ok1.each l hl).1, by have := (ok1.each l hl).2; omega⟩⟩
                have hms := ok1.many
                have hsum := sum_le (l := ls.map (·.length)) (b := 256) fun x hx => by
                  obtain ⟨y, hy, rfl⟩ := List.mem_map.mp hx
                  exact (ok1.each y hy).2
                rw [List.length_map] at hsum
                refine ⟨.ref av, ls, rfl, hv, ok7, fun H2 e2 => ⟨⟨_, rfl⟩, av, rfl, ls, .inl (.inl (e2 _ _ hav)), by rw [show ("\n" : Str).length = 1 from rfl]; omega, _, _, ⟨rfl, rfl⟩, ?_⟩⟩
                have htl : (Txt.join "\n" ls).length + 2 ≤ sizeLine := by
                  have big : 100000 ≤ sizeLine := by decide
                  have := join_le (y := "\n") (b := 256) (l := ls) fun x hx => (ok1.each x hx).2
                  rw [show ("\n" : Str).length = 1 from rfl] at this
                  have : ls.length * (256 + 1) ≤ 63 * 257 := Nat.mul_le_mul hms (Nat.le_refl _)
                  omega
                have hlo := lines_join (fun l hl => (ok1.each l hl).1) hne
                have tok : OkS (Txt.join "\n" ls) := okS_lines fun l hl => (ok1.each l hl).1
                have hav2 := e2 _ _ hav
                have P2 := P1.same e2
                generalize htx : Txt.join "\n" ls = tx at *
                subst hk1
                try dsimp only
                refine seqi fun k1 hk1 => ?_
                walk_at "rd"
                refine ⟨Nat.le_of_lt (small1000 (show 2 ≤ 1000 by decide)), fun l3 n3 => ?_⟩
                have s3 := same_new (o := HO.tup [V.int (firstW ls : Nat), V.bl true]) n3
                have d3 : Dt (upd H2 l3 (HO.tup [V.int (firstW ls : Nat), V.bl true])) (.ref l3) (.tuple [.int (firstW ls : Nat), .bool true]) := .tup upd_same (.cons (.int _) (.cons (.bl true) .nil))
                generalize upd H2 l3 (HO.tup [V.int (firstW ls : Nat), V.bl true]) = H3 at s3 d3 ⊢
                have P3 := P2.same s3
                have hav3 := s3 _ _ hav2
                subst hk1
                try dsimp only
                refine seqi fun k1 hk1 => ?_
                have fin3 : ∀ (v9 : V) (d : PyData) H4, Dt H4 v9 d → PenOk H4 p c (200 * i + 150) → Shp 3 d →
                    (firstW ls ≠ 0 → d = .tuple [.int (firstW ls : Nat), .bool true]) →
                    (firstW ls = 0 → ∀ M : List (List Int), ls.map (fun l => Txt.split l " ") = M.map (fun r => r.map nS) → M.length = ls.length → ls.length ≤ 60 → (∀ r ∈ M, ∀ z ∈ r, OkV M.length z) → d = .tuple [.int 0, .str (tabT M), mD M]) →
                    k1 [some (.ref a), some (.ref p), some (.int (i : Int)), some (.int (n : Int)), some (.ref D), some (.ref av), y6, some (.int (firstW ls : Nat)), some (.str tx), some v9, none, none, none, none, none, none] H4 := fun v9 d H4 h9 P4 hsh hd1 hd0 => by
                  subst hk1
                  walk_at "rd"
                  have fin4 : ∀ v H5, Same H4 H5 → Dt H5 v d → rNeD K v v9 H5 fun x H' => ∃ k, x = V.bl k ∧ if k = true then Q (V.bl false) H' else (∃ x, some v9 = x) ∧ PenOk H' p c (200 * (i + 1)) := fun v H5 s5 hv5 => by
                    refine ⟨d, d, hv5.dp, (h9.same s5).dp, hsh.ok (by decide), hsh.ok (by decide), ?_⟩
                    show ∃ k, V.bl (!d.eqv d) = V.bl k ∧ _
                    rw [PySem.SeqAt.eqv_refl d hsh.1]
                    exact ⟨_, rfl, iteF ⟨⟨_, rfl⟩, (P4.same s5).mono (by omega)⟩⟩
                  refine ⟨tx, ls, rfl, hlo, htl, ok7, fun hw v H5 s5 hv5 => ?_, fun h0 M v H5 e1 e2 e3 e4 e5 s5 hv5 => ?_⟩
                  · rw [← hd1 hw] at hv5
                    exact fin4 v H5 s5 hv5
                  · rw [← hd0 h0 M e3 e1 e2 e5] at hv5
                    exact fin4 v H5 s5 hv5
                refine if_eq rfl (fun h0 => ?_) (fun hn => ?_)
                · have h0 : firstW ls = 0 := by omega
                  obtain ⟨hno, hnil⟩ := firstW_zero h0
                  obtain ⟨M, hM1, hM2⟩ := rows_of (n := ls.length) (ls := ls) (k := 0) fun l hl => by
                    obtain ⟨j, hj, rfl⟩ := List.getElem_of_mem hl
                    have h1 := hno j hj
                    unfold wrongB at h1
                    rw [List.getElem?_eq_getElem hj] at h1
                    exact ⟨j, h1⟩
                  have lM : M.length = ls.length := by
                    have := congrArg List.length hM1
                    rw [List.length_map, List.length_map] at this
                    exact this.symm
                  have hlsM : ls = M.map rowT := by
                    have := congrArg (List.map fun (W : List Str) => Txt.join " " W) hM1
                    rw [List.map_map, List.map_map] at this
                    have e : ls.map ((fun (W : List Str) => Txt.join " " W) ∘ fun l => Txt.split l " ") = ls := by
                      refine (List.map_congr_left (l := ls) (g := id) fun l _ => ?_).trans (List.map_id _)
                      show Txt.join " " (Txt.split l " ") = l
                      rw [TL.join_eq]
                      exact StrLaws.join_split l " "
                    rw [e] at this
                    exact this
                  have hsr : ∀ r ∈ M, Txt.split (rowT r) " " = r.map nS ∧ (rowT r).length ≤ 256 := fun r hr => by
                    obtain ⟨j, hj, rfl⟩ := List.getElem_of_mem hr
                    have hjl : j < ls.length := by omega
                    have h1 := congrArg (fun L : List (List Str) => L[j]?) hM1
                    simp only [List.getElem?_map, List.getElem?_eq_getElem hjl, List.getElem?_eq_getElem hj, Option.map_some, Option.some.injEq] at h1
                    have h2 : ls[j] = rowT M[j] := by
                      have h3 := congrArg (fun L : List Str => L[j]?) hlsM
                      simp only [List.getElem?_map, List.getElem?_eq_getElem hjl, List.getElem?_eq_getElem hj, Option.map_some, Option.some.injEq] at h3
                      exact h3
                    rw [← h2]
                    exact ⟨h1, (ok1.each _ (List.getElem_mem hjl)).2⟩
                  have big : 100000 ≤ sizeLine := by decide
                  walk_at "rd"
                  refine ⟨⟨_, .inl (.inl hav3)⟩, ?_⟩
                  refine lcg_dt (jseq_list K _ _) (.inl (.inl hav3)) M (fun r => .str (rowT r)) (by rw [show M.map (fun r => PyData.str (rowT r)) = ls.map PyData.str by rw [hlsM, List.map_map]; rfl]; exact dts_strs ls) (by omega) (fun r => .list (r.map PyData.int)) (fun D8 x r hr hx H8 e8 hD8 S1 S0 t1 => ?_) (fun D8 H8 hD8 e8 hd8 => ?_)
                  · obtain rfl := hx.txt
                    obtain ⟨hs1, hs2⟩ := hsr r hr
                    obtain ⟨hr1, hr2⟩ := hM2 r hr
                    walk_at "rd"
                    refine ⟨⟨_, rfl⟩, rfl, by omega, fun l9 n9 => ?_⟩
                    rw [hs1]
                    have s9 := same_new (o := HO.lst ((r.map nS).map V.str)) n9
                    have d9 : (upd H8 l9 (HO.lst ((r.map nS).map V.str))) l9 = some (.lst ((r.map nS).map V.str)) := upd_same
                    have n9D : l9 ≠ D8 := fun z => hD8 (by rw [← z]; exact n9)
                    generalize upd H8 l9 (HO.lst ((r.map nS).map V.str)) = H9 at s9 d9 ⊢
                    refine ⟨⟨_, .inl (.inl d9)⟩, ?_⟩
                    refine lcg_old (jseq_list K _ _) (.inl (.inl d9)) r (fun z => .str (nS z)) (by rw [show r.map (fun z => PyData.str (nS z)) = (r.map nS).map PyData.str by rw [List.map_map]; rfl]; exact dts_strs _) (by omega) (fun _ => true) (fun z => .int z) (fun x z hz hx H7 e7 T1 T0 u1 u0 => ?_) (fun D7 H7 hD7 e7 hd7 => ?_)
                    · obtain rfl := hx.txt
                      obtain ⟨j, rfl⟩ : ∃ j : Nat, z = (j : Int) := ⟨z.toNat, by have := (hr2 z hz).1; omega⟩
                      have hj := (hr2 _ hz).2
                      have hl2 := nS_len60 j (by omega)
                      walk_at "rd"
                      exact ⟨_, nS_int j (by omega), by omega, u1 rfl _ _ (Same.refl _) (.int _)⟩
                    · rw [List.filter_eq_self.mpr (fun _ _ => rfl)] at hd7
                      obtain ⟨D9, ys, eD, hD9, hys⟩ := hd7.list
                      cases eD
                      obtain rfl := hys.ints
                      exact t1 _ _ (s9.trans e7) (.lst (by rw [del_ne (fun z => by rw [z] at hD7; exact hD8 (Same.free s9 hD7))]; exact hD9) (dts_ints _))
                  · refine ⟨Nat.le_of_lt (small1000 (show 3 ≤ 1000 by decide)), fun l9 n9 => ?_⟩
                    refine fin3 (.ref l9) (.tuple [.int 0, .str tx, mD M]) _ (.tup upd_same (.cons (.int _) (.cons (.str _) (.cons (hd8.same (same_new n9)) .nil)))) ((P3.same e8).same (same_new n9)) (shp_tup (n := 2) fun d hd => ?_) (fun h => absurd h0 h) (fun _ M2 g1 g2 g3 g4 => ?_)
                    · simp only [List.mem_cons, List.not_mem_nil, or_false] at hd
                      rcases hd with rfl | rfl | rfl
                      · exact (shp_int 0).mono (by decide)
                      · exact (⟨tok, Nat.zero_le _⟩ : Shp 2 (.str tx))
                      · refine shp_lst (n := 1) fun d hd => ?_
                        obtain ⟨r, _, rfl⟩ := List.mem_map.mp hd
                        refine shp_lst (n := 0) fun d hd => ?_
                        obtain ⟨z, _, rfl⟩ := List.mem_map.mp hd
                        exact shp_int z
                    · have : M2 = M := nS_mat_inj (fun r hr z hz => ⟨(g4 r hr z hz).1, by have := (g4 r hr z hz).2; omega⟩) (fun r hr z hz => ⟨((hM2 r hr).2 z hz).1, by have := ((hM2 r hr).2 z hz).2; omega⟩) (g1.symm.trans hM1)
                      subst this
                      rw [← htx, hlsM]
                      rfl
                · refine nxt ?_
                  exact fin3 _ _ H3 d3 P3 (shp_tup (n := 2) fun d hd => by
                    simp only [List.mem_cons, List.not_mem_nil, or_false] at hd
                    rcases hd with rfl | rfl
                    · exact (shp_int _).mono (by decide)
                    · exact (shp_bool _).mono (by decide)) (fun _ => rfl) (fun h => absurd (by omega) hn)
              walk_at "rd"
              refine ⟨Nat.le_of_lt (small1000 (show 1 ≤ 1000 by decide)), fun l1 n1 => ?_⟩
              have s1 := same_new (o := HO.lst [V.str ""]) n1
              refine ⟨.list (ls.map PyData.str), .list ([("" : Str)].map PyData.str), (hvm.same s1).dp, .lst (.inl (.inl upd_same)) (.cons (.str _) .nil), shaped_strs (fun z hz => chs_ok (okm.each z hz).1), by decide +kernel, _, rfl, ?_⟩
              rw [show PyData.eqv (.list (ls.map PyData.str)) (.list ([("" : Str)].map PyData.str)) = decide (ls = [("" : Str)]) from eqv_strs _ _]
              by_cases hq : ls = [("" : Str)]
              · rw [decide_eq_true hq]
                exact iteT ⟨Nat.zero_le _, fun l2 n2 => fin2 _ [] _ ⟨Nat.zero_le _, fun _ h => nomatch h⟩ (by simp) (.lst upd_same .nil) ((Pm.same s1).same (same_new n2))⟩
              · rw [decide_eq_false hq]
                exact iteF (fin2 v ls _ okm hq (hvm.same s1) (Pm.same s1))
        refine if_lt rfl (fun h12 => ?_) (fun h12 => fin D H6 E0 hE hd6 (P6.mono (by omega)))
        walk_at "rd"
        refine ⟨by omega, by omega, ?_⟩
        rw [Int.toNat_natCast]
        refine lcg_pen (m := n) P6 (by omega) (fun d => ∃ r : List Int, d = .list (r.map PyData.int) ∧ r.length = n ∧ ∀ z ∈ r, OkV n z) (fun D8 j H8 hj b8 P8 hD8 npD S1 S0 t1 => ?_) (fun D8 H8 ds hD8 hl gd b8 P8 hd8 => ?_)
        · walk_at "rd"
          refine ⟨by omega, by omega, ?_⟩
          rw [Int.toNat_natCast]
          refine lcg_pen (m := 1) P8 (by omega) (fun d => ∃ z : Int, d = .int z ∧ OkV n z) (fun D9 b H9 hb b9 P9 hD9 npD9 T1 T0 u1 => ?_) (fun D9 H9 ds hD9 hl gd b9 P9 hd9 => ?_)
          · walk_at "rd"
            have hjn : n * j ≤ 121 := by
              have : n * j ≤ 11 * 11 := Nat.mul_le_mul (by omega) (by omega)
              omega
            refine ⟨p, c, n, _, rfl, P9, by omega, by omega, lg_small (by omega), fun r H10 r0 r1 P10 b10 => u1 _ (.int r) _ ⟨r, rfl, r0, r1⟩ b10 (P10.mono (by omega)) (.int r)⟩
          · obtain ⟨zs, rfl, hz⟩ := all_map gd
            obtain ⟨D10, ys, eD, hD10, hys⟩ := hd9.list
            cases eD
            obtain rfl := hys.ints
            rw [List.length_map] at hl
            exact t1 _ _ _ ⟨zs, rfl, hl, hz⟩ b9 (P9.mono (by rw [Nat.mul_succ]; omega)) (.lst (by rw [del_ne (fun z => hD8 (by rw [← z]; exact hD9))]; exact hD10) (dts_ints _))
        · obtain ⟨rs, rfl, hr⟩ := all_map gd
          rw [List.length_map] at hl
          have hnn : n * n ≤ 121 := by
            have : n * n ≤ 11 * 11 := Nat.mul_le_mul (by omega) (by omega)
            omega
          exact fin D8 H8 rs ⟨hl, hr⟩ hd8 (P8.mono (by omega))
    · obtain ⟨⟨y2, y3, y4, y5, y6, y7, y8, y9, rfl⟩, P4⟩ := h
      subst hk0
      walk_at "rd"
      exact q _
end
end Fp

namespace Fp
open PySem PySem.Spec PyProof.Rows L2 ClX
local macro_rules | `(tactic| walk_at "rd") => `(tactic| simp only [cxK, cxKn, tRet, tRetN, rIntI, rIntB, rLenL, rListL, rListT, rAbs, tDisp, tPairs, tC, tCB, tCons, tNil, tSl, tVar, tNoPart, tPart, rSlL, tOp, tAsg, gName, tIfS, tDrop, tTest, tAnd, tOr, Evl.tCut, tNot, tB, rI0, rI, rIxL, rIxT, rIxD, tDGet, sDPut, tLst, tTup, tBM, tBM0, tPar, rAppend, rPopAt, rPop, rExtend, rTupL, tCall, tNext, rAll, rOwnIn, rOwn2, rCat, lc_iL, lc_iT, lc_iK, lc_iR, lc_iE, fr_iL, fr_iT, fr_iR, tYes, rIn, rEq, rNe, gTup, gCons, gNil, wipe, tMeth, tFld, sFld, tMake, tProp, tIf, tAndV, tOrV, tNotV, tTru, rIsi, rSum, tRevL, rU, tUn, rIxS, iEnum, if_true, if_false, Bool.false_eq_true, List.map_cons, List.map_nil, List.nil_append, List.append_nil, List.cons_append, List.getElem?_cons_zero, List.getElem?_cons_succ, Option.some.injEq, exists_and_left, exists_eq_left', exists_eq_left, List.cons.injEq, and_true, true_and, V.ref.injEq, V.int.injEq, V.str.injEq, V.bl.injEq, List.set_cons_zero, List.set_cons_succ])
theorem all_mk {l : PySem.W.OpenLaw} {w : World} {K : PySem.W.Frag} {h : Heap} {mg : Str → Option Value} {fa : Addr} (X : K.In h) (G : h.Ns mainGlobals mg) (hfa : mg "law" = some (.ref fa))
    {FE C CB CL CV CS gB gV gS p_re f_li f_ck f_wr f_pe f_dr f_pi f_ro f_wl f_be f_lr f_la f_in f_ge f_st f_re : Addr} {od_li an_li od_ck an_ck od_wr an_wr od_pe an_pe od_dr an_dr od_pi an_pi od_ro an_ro od_wl an_wl od_be an_be od_lr an_lr od_la an_la od_in an_in od_ge an_ge od_st an_st od_re an_re : Option Addr} {sl_li sl_ck sl_wr sl_pe sl_dr sl_pi sl_ro sl_wl sl_be sl_lr sl_la sl_in sl_ge sl_st sl_re : Array (Option Value)}
    {oc_li kV_li dc_li pm_li cd_li ct_li oc_ck kV_ck dc_ck pm_ck cd_ck ct_ck oc_wr kV_wr dc_wr pm_wr cd_wr ct_wr oc_pe kV_pe dc_pe pm_pe cd_pe ct_pe oc_dr kV_dr dc_dr pm_dr cd_dr ct_dr oc_pi kV_pi dc_pi pm_pi cd_pi ct_pi oc_ro kV_ro dc_ro pm_ro cd_ro ct_ro oc_wl kV_wl dc_wl pm_wl cd_wl ct_wl oc_be kV_be dc_be pm_be cd_be ct_be oc_lr kV_lr dc_lr pm_lr cd_lr ct_lr oc_la kV_la dc_la pm_la cd_la ct_la oc_in kV_in dc_in pm_in cd_in ct_in oc_ge kV_ge dc_ge pm_ge cd_ge ct_ge oc_st kV_st dc_st pm_st cd_st ct_st oc_re kV_re dc_re pm_re cd_re ct_re : Value} {rest_re : List Value} {tG : Tok}
    (a_li : PySem.W.nsIn K mainGlobals "lines_of" = some (some (.ref f_li)))
    (l_li : K.lookup f_li = some ⟨oc_li, od_li, .func (PySem.W.fnOf "lines_of" "lines_of" (defArgs s_lines_of) (defBody s_lines_of) (defScope s_lines_of) .none kV_li dc_li pm_li an_li cd_li ct_li), sl_li⟩)
    (c_li : PySem.W.codeIn K cd_li "lines_of" = true)
    (k_li : PySem.W.keepIn K (.ref f_li) = true)
    (a_ck : PySem.W.nsIn K mainGlobals "_check_values" = some (some (.ref f_ck)))
    (l_ck : K.lookup f_ck = some ⟨oc_ck, od_ck, .func (PySem.W.fnOf "_check_values" "_check_values" (defArgs s__check_values) (defBody s__check_values) (defScope s__check_values) .none kV_ck dc_ck pm_ck an_ck cd_ck ct_ck), sl_ck⟩)
    (c_ck : PySem.W.codeIn K cd_ck "_check_values" = true)
    (k_ck : PySem.W.keepIn K (.ref f_ck) = true)
    (a_wr : PySem.W.nsIn K mainGlobals "table_of_rows" = some (some (.ref f_wr)))
    (l_wr : K.lookup f_wr = some ⟨oc_wr, od_wr, .func (PySem.W.fnOf "table_of_rows" "table_of_rows" (defArgs s_table_of_rows) (defBody s_table_of_rows) (defScope s_table_of_rows) .none kV_wr dc_wr pm_wr an_wr cd_wr ct_wr), sl_wr⟩)
    (c_wr : PySem.W.codeIn K cd_wr "table_of_rows" = true)
    (k_wr : PySem.W.keepIn K (.ref f_wr) = true)
    (a_pe : PySem.W.nsIn K mainGlobals "_law_pen" = some (some (.ref f_pe)))
    (l_pe : K.lookup f_pe = some ⟨oc_pe, od_pe, .func (PySem.W.fnOf "_law_pen" "_law_pen" (defArgs s__law_pen) (defBody s__law_pen) (defScope s__law_pen) .none kV_pe dc_pe pm_pe an_pe cd_pe ct_pe), sl_pe⟩)
    (c_pe : PySem.W.codeIn K cd_pe "_law_pen" = true)
    (k_pe : PySem.W.keepIn K (.ref f_pe) = true)
    (a_dr : PySem.W.nsIn K mainGlobals "_law_draw" = some (some (.ref f_dr)))
    (l_dr : K.lookup f_dr = some ⟨oc_dr, od_dr, .func (PySem.W.fnOf "_law_draw" "_law_draw" (defArgs s__law_draw) (defBody s__law_draw) (defScope s__law_draw) .none kV_dr dc_dr pm_dr an_dr cd_dr ct_dr), sl_dr⟩)
    (c_dr : PySem.W.codeIn K cd_dr "_law_draw" = true)
    (k_dr : PySem.W.keepIn K (.ref f_dr) = true)
    (a_pi : PySem.W.nsIn K mainGlobals "_law_pick" = some (some (.ref f_pi)))
    (l_pi : K.lookup f_pi = some ⟨oc_pi, od_pi, .func (PySem.W.fnOf "_law_pick" "_law_pick" (defArgs s__law_pick) (defBody s__law_pick) (defScope s__law_pick) .none kV_pi dc_pi pm_pi an_pi cd_pi ct_pi), sl_pi⟩)
    (c_pi : PySem.W.codeIn K cd_pi "_law_pick" = true)
    (k_pi : PySem.W.keepIn K (.ref f_pi) = true)
    (a_ro : PySem.W.nsIn K mainGlobals "_law_rows_of_table" = some (some (.ref f_ro)))
    (l_ro : K.lookup f_ro = some ⟨oc_ro, od_ro, .func (PySem.W.fnOf "_law_rows_of_table" "_law_rows_of_table" (defArgs s__law_rows_of_table) (defBody s__law_rows_of_table) (defScope s__law_rows_of_table) .none kV_ro dc_ro pm_ro an_ro cd_ro ct_ro), sl_ro⟩)
    (c_ro : PySem.W.codeIn K cd_ro "_law_rows_of_table" = true)
    (k_ro : PySem.W.keepIn K (.ref f_ro) = true)
    (a_wl : PySem.W.nsIn K mainGlobals "_law_wrong_line" = some (some (.ref f_wl)))
    (l_wl : K.lookup f_wl = some ⟨oc_wl, od_wl, .func (PySem.W.fnOf "_law_wrong_line" "_law_wrong_line" (defArgs s__law_wrong_line) (defBody s__law_wrong_line) (defScope s__law_wrong_line) .none kV_wl dc_wl pm_wl an_wl cd_wl ct_wl), sl_wl⟩)
    (c_wl : PySem.W.codeIn K cd_wl "_law_wrong_line" = true)
    (k_wl : PySem.W.keepIn K (.ref f_wl) = true)
    (a_be : PySem.W.nsIn K mainGlobals "_law_bent" = some (some (.ref f_be)))
    (l_be : K.lookup f_be = some ⟨oc_be, od_be, .func (PySem.W.fnOf "_law_bent" "_law_bent" (defArgs s__law_bent) (defBody s__law_bent) (defScope s__law_bent) .none kV_be dc_be pm_be an_be cd_be ct_be), sl_be⟩)
    (c_be : PySem.W.codeIn K cd_be "_law_bent" = true)
    (k_be : PySem.W.keepIn K (.ref f_be) = true)
    (a_lr : PySem.W.nsIn K mainGlobals "_law_read" = some (some (.ref f_lr)))
    (l_lr : K.lookup f_lr = some ⟨oc_lr, od_lr, .func (PySem.W.fnOf "_law_read" "_law_read" (defArgs s__law_read) (defBody s__law_read) (defScope s__law_read) .none kV_lr dc_lr pm_lr an_lr cd_lr ct_lr), sl_lr⟩)
    (c_lr : PySem.W.codeIn K cd_lr "_law_read" = true)
    (k_lr : PySem.W.keepIn K (.ref f_lr) = true)
    (a_la : PySem.W.nsIn K mainGlobals "law" = some (some (.ref f_la)))
    (l_la : K.lookup f_la = some ⟨oc_la, od_la, .func (PySem.W.fnOf "law" "law" (defArgs s_law) (defBody s_law) (defScope s_law) .none kV_la dc_la pm_la an_la cd_la ct_la), sl_la⟩)
    (c_la : PySem.W.codeIn K cd_la "law" = true)
    (k_la : PySem.W.keepIn K (.ref f_la) = true)
    (a_in : PySem.W.findIn K (.ref C) "__init__" = some (some (.ref f_in)))
    (i_in : PySem.W.isFn K (.ref f_in) = true)
    (l_in : K.lookup f_in = some ⟨oc_in, od_in, .func (PySem.W.fnOf "__init__" "Table.__init__" (defArgs s_Table___init__) (defBody s_Table___init__) (defScope s_Table___init__) .none kV_in dc_in pm_in an_in cd_in ct_in), sl_in⟩)
    (c_in : PySem.W.codeIn K cd_in "Table.__init__" = true)
    (k_in : PySem.W.keepIn K (.ref f_in) = true)
    (a_ge : PySem.W.findIn K (.ref C) "__getitem__" = some (some (.ref f_ge)))
    (i_ge : PySem.W.isFn K (.ref f_ge) = true)
    (l_ge : K.lookup f_ge = some ⟨oc_ge, od_ge, .func (PySem.W.fnOf "__getitem__" "Table.__getitem__" (defArgs s_Table___getitem__) (defBody s_Table___getitem__) (defScope s_Table___getitem__) .none kV_ge dc_ge pm_ge an_ge cd_ge ct_ge), sl_ge⟩)
    (c_ge : PySem.W.codeIn K cd_ge "Table.__getitem__" = true)
    (k_ge : PySem.W.keepIn K (.ref f_ge) = true)
    (a_st : PySem.W.findIn K (.ref C) "__str__" = some (some (.ref f_st)))
    (i_st : PySem.W.isFn K (.ref f_st) = true)
    (l_st : K.lookup f_st = some ⟨oc_st, od_st, .func (PySem.W.fnOf "__str__" "Table.__str__" (defArgs s_Table___str__) (defBody s_Table___str__) (defScope s_Table___str__) .none kV_st dc_st pm_st an_st cd_st ct_st), sl_st⟩)
    (c_st : PySem.W.codeIn K cd_st "Table.__str__" = true)
    (k_st : PySem.W.keepIn K (.ref f_st) = true)
    (j_ge : PySem.W.fnIn K f_ge = true)
    (a_re : PySem.W.findCls K (.ref C) (.type "type") "read" = some (.get (.builtin "classmethod.__get__") (.ref p_re) .none (.ref C)))
    (r_re : PySem.W.recIn K p_re "classmethod" = some (.ref f_re :: rest_re))
    (i_re : PySem.W.fnIn K f_re = true)
    (l_re : K.lookup f_re = some ⟨oc_re, od_re, .func (PySem.W.fnOf "read" "Table.read" (defArgs s_Table_read) (defBody s_Table_read) (defScope s_Table_read) .none kV_re dc_re pm_re an_re cd_re ct_re), sl_re⟩)
    (c_re : PySem.W.codeIn K cd_re "Table.read" = true)
    (k_re : PySem.W.keepIn K (.ref f_re) = true)
    (rd : PySem.W.readsIn K C (.type "type") = true)
    (gaC : PySem.W.specialIn K (.ref C) "__getattribute__" = some (some (.builtin "type.__getattribute__")))
    (aC : PySem.W.nsIn K mainGlobals "Table" = some (some (.ref C)))
    (mk : PySem.W.makesIn K C = true)
    (kC : PySem.W.keepIn K (.ref C) = true)
    (pg : PySem.W.plainGet K C Str.empty = true)
    (hd : PySem.W.hasDictIn K C = true)
    (po : PySem.W.plainOver K C = true)
    (sa : PySem.W.findIn K (.ref C) "__setattr__" = some (some (.builtin "object.__setattr__")))
    (nS : PySem.W.findIn K (.ref C) "size" = some none)
    (nR : PySem.W.findIn K (.ref C) "_rows" = some none)
    (iN : PySem.W.specialIn K (.builtin "object.__class__") "__get__" = some (some (.builtin "getset_descriptor.__get__")))
    (iT : PySem.W.takesIn K (.builtin "object.__class__") = some true)
    (aG : PySem.W.nsIn K mainGlobals "_GREATEST_SIZE" = some (some (.int 60 tG)))
    (aF : PySem.W.nsIn K mainGlobals "FoldError" = some (some (.ref FE)))
    (lF : ∃ nm q N bs sn sub ab col dd k0 k1 k2 k3 k5, K.lookup FE = some (excClassObj nm q FE N bs PySem.HandSPX.veTail true sn sub ab col dd k0 k1 k2 k3 k5 "ValueError.__new__"))
    (tF : PySem.W.typeIn K (.ref FE) = some (.type "type"))
    (aXB : PySem.W.nsIn K mainGlobals "BadTable" = some (some (.ref CB)))
    (ecB : EC K FE CB)
    (inB : PySem.W.findIn K (.ref CB) "__init__" = some (some (.ref gB)))
    (tyB : PySem.W.typeIn K (.ref gB) = some (.type "function"))
    (fnB : ∃ (oc : Value) (od : Option Addr) (kV doc pm : Value) (an : Option Addr) (cdv ct : Value) (osl : Array (Option Value)), K.lookup gB = some ⟨oc, od, .func (PySem.W.fnOf "__init__" "BadTable.__init__" (defArgs s_BadTable___init__) (defBody s_BadTable___init__) (defScope s_BadTable___init__) .none kV doc pm an cdv ct), osl⟩ ∧ PySem.W.codeIn K cdv "BadTable.__init__" = true ∧ PySem.W.keepIn K (.ref gB) = true)
    (nxB : PySem.W.findIn K (.ref CB) "line" = some none)
    (aXL : PySem.W.nsIn K mainGlobals "BadLoop" = some (some (.ref CL)))
    (ecL : EC K FE CL)
    (aXV : PySem.W.nsIn K mainGlobals "BadValue" = some (some (.ref CV)))
    (ecV : EC K FE CV)
    (inV : PySem.W.findIn K (.ref CV) "__init__" = some (some (.ref gV)))
    (tyV : PySem.W.typeIn K (.ref gV) = some (.type "function"))
    (fnV : ∃ (oc : Value) (od : Option Addr) (kV doc pm : Value) (an : Option Addr) (cdv ct : Value) (osl : Array (Option Value)), K.lookup gV = some ⟨oc, od, .func (PySem.W.fnOf "__init__" "BadValue.__init__" (defArgs s_BadValue___init__) (defBody s_BadValue___init__) (defScope s_BadValue___init__) .none kV doc pm an cdv ct), osl⟩ ∧ PySem.W.codeIn K cdv "BadValue.__init__" = true ∧ PySem.W.keepIn K (.ref gV) = true)
    (nxV : PySem.W.findIn K (.ref CV) "value" = some none)
    (aXS : PySem.W.nsIn K mainGlobals "BadSize" = some (some (.ref CS)))
    (ecS : EC K FE CS)
    (inS : PySem.W.findIn K (.ref CS) "__init__" = some (some (.ref gS)))
    (tyS : PySem.W.typeIn K (.ref gS) = some (.type "function"))
    (fnS : ∃ (oc : Value) (od : Option Addr) (kV doc pm : Value) (an : Option Addr) (cdv ct : Value) (osl : Array (Option Value)), K.lookup gS = some ⟨oc, od, .func (PySem.W.fnOf "__init__" "BadSize.__init__" (defArgs s_BadSize___init__) (defBody s_BadSize___init__) (defScope s_BadSize___init__) .none kV doc pm an cdv ct), osl⟩ ∧ PySem.W.codeIn K cdv "BadSize.__init__" = true ∧ PySem.W.keepIn K (.ref gS) = true)
    (nxS : PySem.W.findIn K (.ref CS) "size" = some none)
    (eBB : PySem.W.exmOne K (.ref CB) (.ref CB) = some true)
    (z_list : PySem.W.nsIn K mainGlobals "list" = some none)
    (z_all : PySem.W.nsIn K mainGlobals "all" = some none)
    (z_isinstance : PySem.W.nsIn K mainGlobals "isinstance" = some none)
    (z_int : PySem.W.nsIn K mainGlobals "int" = some none)
    (z_bool : PySem.W.nsIn K mainGlobals "bool" = some none)
    (z_len : PySem.W.nsIn K mainGlobals "len" = some none)
    (z_abs : PySem.W.nsIn K mainGlobals "abs" = some none)
    (z_range : PySem.W.nsIn K mainGlobals "range" = some none)
    (z_str : PySem.W.nsIn K mainGlobals "str" = some none)
    (z_enumerate : PySem.W.nsIn K mainGlobals "enumerate" = some none)
    (z_ValueError : PySem.W.nsIn K mainGlobals "ValueError" = some none)
    (hBL : CB ≠ CL)
    (hFE : FE ∉ [CB, CL])
    : ∃ fd : FuncData, (∀ (s : Shared) (v : Value), BindsTo s fd ⟨[v], []⟩ [("script", v)]) ∧ ∀ base : Heap, K.In base → base.Ns mainGlobals mg → FnOk l.prog w K mg base CX0 8 fa fd ["script"] (spLaw K) := by
  have e := hfa.symm.trans (PySem.W.mg_of X G a_la)
  cases e
  have F_li := fun_mk (st := s_lines_of) l_li c_li k_li
  have b_li := F_li.binds (ps := ["text"]) fun _ _ _ _ _ _ us hl => match us, hl with | [_], _ => rfl
  have F_ck := fun_mk (st := s__check_values) l_ck c_ck k_ck
  have b_ck := F_ck.binds (ps := ["values", "size"]) fun _ _ _ _ _ _ us hl => match us, hl with | [_, _], _ => rfl
  have F_wr := fun_mk (st := s_table_of_rows) l_wr c_wr k_wr
  have b_wr := F_wr.binds (ps := ["rows"]) fun _ _ _ _ _ _ us hl => match us, hl with | [_], _ => rfl
  have F_pe := fun_mk (st := s__law_pen) l_pe c_pe k_pe
  have b_pe := F_pe.binds (ps := ["script"]) fun _ _ _ _ _ _ us hl => match us, hl with | [_], _ => rfl
  have F_dr := fun_mk (st := s__law_draw) l_dr c_dr k_dr
  have b_dr := F_dr.binds (ps := ["pen", "span"]) fun _ _ _ _ _ _ us hl => match us, hl with | [_, _], _ => rfl
  have F_pi := fun_mk (st := s__law_pick) l_pi c_pi k_pi
  have b_pi := F_pi.binds (ps := ["pen", "options"]) fun _ _ _ _ _ _ us hl => match us, hl with | [_, _], _ => rfl
  have F_ro := fun_mk (st := s__law_rows_of_table) l_ro c_ro k_ro
  have b_ro := F_ro.binds (ps := ["made"]) fun _ _ _ _ _ _ us hl => match us, hl with | [_], _ => rfl
  have F_wl := fun_mk (st := s__law_wrong_line) l_wl c_wl k_wl
  have b_wl := F_wl.binds (ps := ["lines"]) fun _ _ _ _ _ _ us hl => match us, hl with | [_], _ => rfl
  have F_be := fun_mk (st := s__law_bent) l_be c_be k_be
  have b_be := F_be.binds (ps := ["pen", "lines"]) fun _ _ _ _ _ _ us hl => match us, hl with | [_, _], _ => rfl
  have F_lr := fun_mk (st := s__law_read) l_lr c_lr k_lr
  have b_lr := F_lr.binds (ps := ["text"]) fun _ _ _ _ _ _ us hl => match us, hl with | [_], _ => rfl
  have F_la := fun_mk (st := s_law) l_la c_la k_la
  have F_in := fun_mk (st := s_Table___init__) l_in c_in k_in
  have b_in := F_in.binds (ps := ["self", "size"]) fun _ _ _ _ _ _ us hl => match us, hl with | [_, _], _ => rfl
  have F_ge := fun_mk (st := s_Table___getitem__) l_ge c_ge k_ge
  have b_ge := F_ge.binds (ps := ["self", "at"]) fun _ _ _ _ _ _ us hl => match us, hl with | [_, _], _ => rfl
  have F_st := fun_mk (st := s_Table___str__) l_st c_st k_st
  have b_st := F_st.binds (ps := ["self"]) fun _ _ _ _ _ _ us hl => match us, hl with | [_], _ => rfl
  have F_re := fun_mk (st := s_Table_read) l_re c_re k_re
  have b_re := F_re.binds (ps := ["cls", "text"]) fun _ _ _ _ _ _ us hl => match us, hl with | [_, _], _ => rfl
  have TX : TxT K mg C := ⟨PySem.W.mg_of X G aC, ⟨pg, hd, po, sa⟩, nS, nR⟩
  have fam : EFam K FE [CB, CL] := ⟨by simp [hBL], hFE, by obtain ⟨nm, q, N, bs, sn, sub, ab, col, dd, k0, k1, k2, k3, k5, hF⟩ := lF; unfold PySem.W.clsIn; rw [hF] <;> rfl, tF, iN, iT, fun C hC => by
    simp only [List.mem_cons, List.not_mem_nil, or_false] at hC
    rcases hC with rfl | rfl
    · exact ecB
    · exact ecL⟩
  refine ⟨PySem.W.fnOf "law" "law" (defArgs s_law) (defBody s_law) (defScope s_law) .none kV_la dc_la pm_la an_la cd_la ct_la, fun s v => .of_eq rfl, fun base _ _ => ?_⟩
  have XB : Xe l.prog w K mg base CB "line" := by
    obtain ⟨oc, od, kV, doc, pm, an, cdv, ct, osl, h1, h2, h3⟩ := fnB
    have F := fun_mk (st := s_BadTable___init__) h1 h2 h3
    exact ⟨gB, _, ecB.oex, inB, tyB, F.binds (ps := ["self", "line"]) fun _ _ _ _ _ _ us hl => match us, hl with | [_, _], _ => rfl, ok_BadTable F ecB nxB⟩
  have XV : Xe l.prog w K mg base CV "value" := by
    obtain ⟨oc, od, kV, doc, pm, an, cdv, ct, osl, h1, h2, h3⟩ := fnV
    have F := fun_mk (st := s_BadValue___init__) h1 h2 h3
    exact ⟨gV, _, ecV.oex, inV, tyV, F.binds (ps := ["self", "value"]) fun _ _ _ _ _ _ us hl => match us, hl with | [_, _], _ => rfl, ok_BadValue F ecV nxV⟩
  have XS : Xe l.prog w K mg base CS "size" := by
    obtain ⟨oc, od, kV, doc, pm, an, cdv, ct, osl, h1, h2, h3⟩ := fnS
    have F := fun_mk (st := s_BadSize___init__) h1 h2 h3
    exact ⟨gS, _, ecS.oex, inS, tyS, F.binds (ps := ["self", "size"]) fun _ _ _ _ _ _ us hl => match us, hl with | [_, _], _ => rfl, ok_BadSize F ecS nxS⟩
  have D_pe : Dn l.prog w K mg base 1 "_law_pen" ["script"] (spPen K) := ⟨f_pe, _, PySem.W.mg_of X G a_pe, k_pe, b_pe, ok_pen F_pe (PySem.W.mg_none_of X G z_list)⟩
  have D_dr : Dn l.prog w K mg base 1 "_law_draw" ["pen", "span"] spDraw := ⟨f_dr, _, PySem.W.mg_of X G a_dr, k_dr, b_dr, ok_draw F_dr (PySem.W.mg_none_of X G z_int) (PySem.W.mg_none_of X G z_len) (PySem.W.mg_none_of X G z_abs)⟩
  have D_pi : Dn l.prog w K mg base 2 "_law_pick" ["pen", "options"] spPick := ⟨f_pi, _, PySem.W.mg_of X G a_pi, k_pi, b_pi, ok_pick F_pi D_dr (PySem.W.mg_none_of X G z_len)⟩
  have D_li : Dn l.prog w K mg base 1 "lines_of" ["text"] spLines := ⟨f_li, _, PySem.W.mg_of X G a_li, k_li, b_li, ok_linesof F_li⟩
  have D_ck : De l.prog w K mg base 3 "_check_values" ["values", "size"] (spCk K CV) := ⟨f_ck, _, PySem.W.mg_of X G a_ck, k_ck, b_ck, ok_check F_ck (PySem.W.mg_none_of X G z_isinstance) (PySem.W.mg_none_of X G z_int) (PySem.W.mg_none_of X G z_bool) (PySem.W.mg_of X G aXV) XV⟩
  have N : Ke l.prog w K mg base 3 C ["self", "size"] [] (spTI C CS) := ⟨f_in, _, [], ⟨mk, a_in, i_in, kC⟩, b_in, b_in, .nil, ok_tinit F_in TX tG (PySem.W.mg_of X G aG) (PySem.W.mg_none_of X G z_range) (PySem.W.mg_of X G aXS) XS⟩
  have D_wr : Dn l.prog w K mg base 5 "table_of_rows" ["rows"] (spWR2 C) := ⟨f_wr, _, PySem.W.mg_of X G a_wr, k_wr, b_wr, ok_withrows F_wr TX (PySem.W.mg_none_of X G z_len) (PySem.W.mg_none_of X G z_list) N⟩
  have M_ge : Ge l.prog w K mg base 4 C ["self", "at"] (spGet C CV) := ⟨f_ge, _, ⟨a_ge, i_ge, k_ge⟩, j_ge, b_ge, ok_tget F_ge TX D_ck⟩
  have M_st : Mn l.prog w K mg base 1 C "__str__" ["self"] (spTStr C) := ⟨f_st, _, ⟨a_st, i_st, k_st⟩, b_st, ok_tstr F_st TX (PySem.W.mg_none_of X G z_str)⟩
  have CE : Ce l.prog w K mg base 6 C "read" (spRead C CB) := ⟨.type "type", p_re, f_re, ⟨rd, gaC⟩, ⟨a_re, ⟨_, r_re⟩, i_re⟩, FnR.imp ((ok_read F_re TX D_li D_wr XB (PySem.W.mg_of X G aXB) (PySem.W.mg_none_of X G z_range) (PySem.W.mg_none_of X G z_len) (PySem.W.mg_none_of X G z_str) (PySem.W.mg_none_of X G z_enumerate) (PySem.W.mg_none_of X G z_all) tG (PySem.W.mg_of X G aG)).raw b_re .nil) (fun vs H Q E h => by rw [List.append_nil]; exact h)⟩
  have D_ro : Dn l.prog w K mg base 6 "_law_rows_of_table" ["made"] (spRows C) := ⟨f_ro, _, PySem.W.mg_of X G a_ro, k_ro, b_ro, ok_rowsof F_ro TX (PySem.W.mg_none_of X G z_range) M_ge⟩
  have D_wl : Dn l.prog w K mg base 1 "_law_wrong_line" ["lines"] spWrong := ⟨f_wl, _, PySem.W.mg_of X G a_wl, k_wl, b_wl, ok_wrong F_wl (PySem.W.mg_none_of X G z_range) (PySem.W.mg_none_of X G z_len) (PySem.W.mg_none_of X G z_str)⟩
  have D_be : Dn l.prog w K mg base 3 "_law_bent" ["pen", "lines"] spBent := ⟨f_be, _, PySem.W.mg_of X G a_be, k_be, b_be, ok_bent F_be D_dr D_pi (PySem.W.mg_none_of X G z_len) (PySem.W.mg_none_of X G z_str) (PySem.W.mg_none_of X G z_int)⟩
  have D_lr : Dn l.prog w K mg base 7 "_law_read" ["text"] spLRead := ⟨f_lr, _, PySem.W.mg_of X G a_lr, k_lr, b_lr, ok_lread F_lr TX CE M_st D_ro fam (by simp) (by simp) hBL eBB nxB (PySem.W.mg_of X G aXB) (PySem.W.mg_of X G aXL) (PySem.W.mg_of X G aF) (PySem.W.mg_none_of X G z_isinstance) (PySem.W.mg_none_of X G z_ValueError) (PySem.W.mg_none_of X G z_str)⟩
  exact ok_law F_la (PySem.W.mg_none_of X G z_range) (PySem.W.mg_none_of X G z_len) (PySem.W.mg_none_of X G z_int) (PySem.W.mg_none_of X G z_str) D_pe D_dr D_pi D_be D_wl D_lr
end Fp

namespace Fp
open PySem PySem.Spec PyProof.Rows L2 ClX
local macro_rules | `(tactic| walk_at "rd") => `(tactic| simp only [cxK, cxKn, tRet, tRetN, rIntI, rIntB, rLenL, rListL, rListT, rAbs, tDisp, tPairs, tC, tCB, tCons, tNil, tSl, tVar, tNoPart, tPart, rSlL, tOp, tAsg, gName, tIfS, tDrop, tTest, tAnd, tOr, Evl.tCut, tNot, tB, rI0, rI, rIxL, rIxT, rIxD, tDGet, sDPut, tLst, tTup, tBM, tBM0, tPar, rAppend, rPopAt, rPop, rExtend, rTupL, tCall, tNext, rAll, rOwnIn, rOwn2, rCat, lc_iL, lc_iT, lc_iK, lc_iR, lc_iE, fr_iL, fr_iT, fr_iR, tYes, rIn, rEq, rNe, gTup, gCons, gNil, wipe, tMeth, tFld, sFld, tMake, tProp, tIf, tAndV, tOrV, tNotV, tTru, rIsi, rSum, tRevL, rU, tUn, rIxS, iEnum, if_true, if_false, Bool.false_eq_true, List.map_cons, List.map_nil, List.nil_append, List.append_nil, List.cons_append, List.getElem?_cons_zero, List.getElem?_cons_succ, Option.some.injEq, exists_and_left, exists_eq_left', exists_eq_left, List.cons.injEq, and_true, true_and, V.ref.injEq, V.int.injEq, V.str.injEq, V.bl.injEq, List.set_cons_zero, List.set_cons_succ])
end Fp
open PySem PySem.W PyProof.Rows
set_option maxHeartbeats 0 in
theorem PySem.Challenge.cw_foldplans_k21_tables_read_holds : PySem.Challenge.rw_foldplans_k21_tables_read.Holds := by
  w_on; o_law; k_head; (case hw => w_witness2)
  k_fill
  refine L2.walk_of (l := PySem.Challenge.rw_foldplans_k21_tables_read) (n := 63) (k := 8) (x := "script") (CX := fun _ => L2.CX0) (sp := fun w => Fp.spLaw _) rfl (by decide) rfl ⟨rfl, by decide, by decide⟩ (fun w h Y => PySem.W.kIn_of Y) ?F (fun _ _ a ns hl _ hS => ⟨a, ns, rfl, hS, hl, fun _ => rfl⟩) (fun _ _ _ _ _ h => h)
  case F =>
    intro w mg fa h KX G hmg
    refine' Fp.all_mk KX G hmg ?a_li ?l_li ?c_li ?k_li ?a_ck ?l_ck ?c_ck ?k_ck ?a_wr ?l_wr ?c_wr ?k_wr ?a_pe ?l_pe ?c_pe ?k_pe ?a_dr ?l_dr ?c_dr ?k_dr ?a_pi ?l_pi ?c_pi ?k_pi ?a_ro ?l_ro ?c_ro ?k_ro ?a_wl ?l_wl ?c_wl ?k_wl ?a_be ?l_be ?c_be ?k_be ?a_lr ?l_lr ?c_lr ?k_lr ?a_la ?l_la ?c_la ?k_la ?a_in ?i_in ?l_in ?c_in ?k_in ?a_ge ?i_ge ?l_ge ?c_ge ?k_ge ?a_st ?i_st ?l_st ?c_st ?k_st ?j_ge ?a_re ?r_re ?i_re ?l_re ?c_re ?k_re ?rd ?gaC ?aC ?mk ?kC ?pg ?hd ?po ?sa ?nS ?nR ?iN ?iT ?aG ?aF ?lF ?tF ?aXB ?ecB ?inB ?tyB ?fnB ?nxB ?aXL ?ecL ?aXV ?ecV ?inV ?tyV ?fnV ?nxV ?aXS ?ecS ?inS ?tyS ?fnS ?nxS ?eBB ?z_list ?z_all ?z_isinstance ?z_int ?z_bool ?z_len ?z_abs ?z_range ?z_str ?z_enumerate ?z_ValueError ?hBL ?hFE
    (case aC => k_is)
    (case aF => k_is)
    (case aXB => k_is)
    (case aXL => k_is)
    (case aXV => k_is)
    (case aXS => k_is)
    (case a_li => k_is)
    (case l_li => k_is)
    (case c_li => k_is)
    (case k_li => k_is)
    (case a_ck => k_is)
    (case l_ck => k_is)
    (case c_ck => k_is)
    (case k_ck => k_is)
    (case a_wr => k_is)
    (case l_wr => k_is)
    (case c_wr => k_is)
    (case k_wr => k_is)
    (case a_pe => k_is)
    (case l_pe => k_is)
    (case c_pe => k_is)
    (case k_pe => k_is)
    (case a_dr => k_is)
    (case l_dr => k_is)
    (case c_dr => k_is)
    (case k_dr => k_is)
    (case a_pi => k_is)
    (case l_pi => k_is)
    (case c_pi => k_is)
    (case k_pi => k_is)
    (case a_ro => k_is)
    (case l_ro => k_is)
    (case c_ro => k_is)
    (case k_ro => k_is)
    (case a_wl => k_is)
    (case l_wl => k_is)
    (case c_wl => k_is)
    (case k_wl => k_is)
    (case a_be => k_is)
    (case l_be => k_is)
    (case c_be => k_is)
    (case k_be => k_is)
    (case a_lr => k_is)
    (case l_lr => k_is)
    (case c_lr => k_is)
    (case k_lr => k_is)
    (case a_la => k_is)
    (case l_la => k_is)
    (case c_la => k_is)
    (case k_la => k_is)
    (case a_in => k_is)
    (case i_in => k_is)
    (case l_in => k_is)
    (case c_in => k_is)
    (case k_in => k_is)
    (case a_ge => k_is)
    (case i_ge => k_is)
    (case l_ge => k_is)
    (case c_ge => k_is)
    (case k_ge => k_is)
    (case a_st => k_is)
    (case i_st => k_is)
    (case l_st => k_is)
    (case c_st => k_is)
    (case k_st => k_is)
    (case j_ge => k_is)
    (case a_re => k_is)
    (case r_re => k_is)
    (case i_re => k_is)
    (case l_re => k_is)
    (case c_re => k_is)
    (case k_re => k_is)
    (case rd => k_is)
    (case gaC => k_is)
    (case mk => k_is)
    (case kC => k_is)
    (case pg => k_is)
    (case hd => k_is)
    (case po => k_is)
    (case sa => k_is)
    (case nS => k_is)
    (case nR => k_is)
    (case iN => k_is)
    (case iT => k_is)
    (case aG => k_is)
    (case lF => (repeat' apply Exists.intro); k_is)
    (case tF => k_is)
    (case ecB => refine' Fp.EC.mk (Fp.ClF.mk ?h1) ?h2 ?h3 ?h4 ?h5 ?h6; (case h1 => (repeat' apply Exists.intro); k_is); (case h2 => k_is); (case h3 => k_is); (case h4 => k_is); (case h5 => k_is); (case h6 => k_is))
    (case inB => k_is)
    (case tyB => k_is)
    (case fnB => (repeat' apply Exists.intro); refine' ⟨?h1, ?h2, ?h3⟩; (case h1 => k_is); (case h2 => k_is); (case h3 => k_is))
    (case nxB => k_is)
    (case ecL => refine' Fp.EC.mk (Fp.ClF.mk ?h1) ?h2 ?h3 ?h4 ?h5 ?h6; (case h1 => (repeat' apply Exists.intro); k_is); (case h2 => k_is); (case h3 => k_is); (case h4 => k_is); (case h5 => k_is); (case h6 => k_is))
    (case ecV => refine' Fp.EC.mk (Fp.ClF.mk ?h1) ?h2 ?h3 ?h4 ?h5 ?h6; (case h1 => (repeat' apply Exists.intro); k_is); (case h2 => k_is); (case h3 => k_is); (case h4 => k_is); (case h5 => k_is); (case h6 => k_is))
    (case inV => k_is)
    (case tyV => k_is)
    (case fnV => (repeat' apply Exists.intro); refine' ⟨?h1, ?h2, ?h3⟩; (case h1 => k_is); (case h2 => k_is); (case h3 => k_is))
    (case nxV => k_is)
    (case ecS => refine' Fp.EC.mk (Fp.ClF.mk ?h1) ?h2 ?h3 ?h4 ?h5 ?h6; (case h1 => (repeat' apply Exists.intro); k_is); (case h2 => k_is); (case h3 => k_is); (case h4 => k_is); (case h5 => k_is); (case h6 => k_is))
    (case inS => k_is)
    (case tyS => k_is)
    (case fnS => (repeat' apply Exists.intro); refine' ⟨?h1, ?h2, ?h3⟩; (case h1 => k_is); (case h2 => k_is); (case h3 => k_is))
    (case nxS => k_is)
    (case eBB => first | k_is | rfl | decide +kernel)
    (case z_list => k_is)
    (case z_all => k_is)
    (case z_isinstance => k_is)
    (case z_int => k_is)
    (case z_bool => k_is)
    (case z_len => k_is)
    (case z_abs => k_is)
    (case z_range => k_is)
    (case z_str => k_is)
    (case z_enumerate => k_is)
    (case z_ValueError => k_is)
    (case hBL => decide)
    (case hFE => decide)
