import PyProof.Rows.All
import Wide.All
import OpenK.AllK
import Wide.FinOn
import HandS.ForMost
import HandS.ForExc
import HandS.ExcIs
import HandS.IsInst
import HandS.Style
import HandS.Gcd
import HandS.Wide
import HandS.RaiseMore
import HandS.FStr
import HandS.SortInts
import HandS.Conv
import KE.Datum
import HandS.SortRule
import HandS.SortOrd
import HandS.DictTup
import HandS.ListItems
import KE.KItemsList
import KE.DatumOrd
import KE.SortData
import KE.KeyNested
import KE.KDictWalk
import KE.KDictDisplayH
import KE.KDictCopyH
import HandS.Iter
import HandS.More
import HandS.SetFor
import HandS.Strs
import KE.KEqDict
import HandS.TupSets
import PyProof.TupleOfSeq
import HandS.List
import HandS.Deep
import PySem.Challenge.RW_dicepairs_k09_whole_alike_dice
set_option Elab.async false
set_option linter.all false
set_option maxRecDepth 100000
set_option maxHeartbeats 4000000
/-! A caught error that is kept behind its clause: it is tracked from there on; isinstance asks it there. -/
namespace My
open PySem PySem.Spec PyProof.Rows L2

/-- an error object of the class cls, its own dict d, that lies at a -/
def ExV (cls : Value) (d : Option Addr) (a : Addr) : HO :=
  .ext fun h => ∃ (oe : Obj) (vs : Array Value), h.get? a = some oe ∧ Zc cls d oe ∧ oe.data = .fields vs

section
variable {X : Cx} {pins : List (Addr × Obj)} {σ : L2.St} {H : Hp} {s : Shared} {a : Addr} {oe : Obj} {vs : Array Value} {cls : Value} {d : Option Addr}

theorem track (I : Inv X pins σ H s) (he : s.heap.get? a = some oe) (hz : Zc cls d oe) (hd : oe.data = .fields vs) (na : H a = none)
    (n0 : X.s_0.heap.get? a = none) (nL : a ≠ X.env.locals) (np : ∀ p ∈ X.pn ++ pins, p.1 ≠ a) : Inv X pins σ (upd H a (ExV cls d a)) s := by
  have u1 : ∀ b o, X.s_0.heap.get? b = some o → b ≠ a := by
    intro b o e z
    rw [z, n0] at e
    cases e
  have u2 : ∀ b (o : HO), H b = some o → b ≠ a := fun b o e => ne_of_none e na
  have u3 : ∀ x c, X.env.cells.lookup x = some c → c ≠ a := by
    intro x c e z
    obtain ⟨v, o, ho, hv⟩ := I.cell x c e
    rw [z, he] at ho
    cases ho
    rw [hd] at hv
    cases hv
  refine { ok := I.ok, os := I.os, bare := I.bare, loc := I.loc, cell := I.cell, len := I.len, base := ?_, free := ?_, freeC := ?_, pin := ?_, hok := ?_ }
  · have B := I.base
    refine { keep := B.keep, slot := B.slot, there := B.there, free := ?_, tups := ?_, frzs := ?_, tbls := ?_ }
    · intro b o e n x
      rw [upd_ne (u1 b o e)]
      exact B.free b o e n x
    · intro b xs e
      have q := B.tups b xs e
      rw [upd_ne (u2 b _ q)]
      exact q
    · intro b o u e
      have q := B.frzs b o u e
      rw [upd_ne (u2 b _ q)]
      exact q
    · intro b ps e
      obtain ⟨more, q⟩ := B.tbls b ps e
      refine ⟨more, ?_⟩
      rw [upd_ne (u2 b _ q)]
      exact q
  · rw [upd_ne (Ne.symm nL)]
    exact I.free
  · intro x c e
    rw [upd_ne (u3 x c e)]
    exact I.freeC x c e
  · intro p hp
    obtain ⟨p1, p2, p3⟩ := I.pin p hp
    refine ⟨p1, ?_, p3⟩
    rw [upd_ne (np p hp)]
    exact p2
  · intro b o e
    by_cases hb : b = a
    · subst hb
      rw [upd_same] at e
      cases e
      exact ⟨⟨oe, vs, he, hz, hd⟩, ⟨oe, he⟩, fun h1 h2 ⟨o1, v1, w1, w2⟩ k => ⟨o1, v1, k o1 w1, w2⟩⟩
    · rw [upd_ne hb] at e
      refine (I.hok b o e).stay (fun c v _ q => q) (fun c q => ?_) (fun c xs q => ?_)
      · rw [upd_ne (u2 c _ q)]
        exact q
      · rw [upd_ne (u2 c _ q)]
        exact q
end

/-- the wish of a clause 'except x as n': behind the suite the error is tracked -/
def wKeep (K : PySem.W.Frag) (c : Value) (i : Nat) (ts : Addr → Value → Option Addr → TS) (Wout : WX) (D : Ends) : WX := fun cls d σ H =>
  ∃ b, PySem.W.exmOne K cls c = some b ∧
    (b = true → ∀ a, H a = none → ts a cls d { nx := fun σ' H' => D.nx (σ'.set i none) (upd H' a (ExV cls d a)), rt := fun _ _ => False } (σ.set i (some (.ref a))) H) ∧
    (b = false → Wout cls d σ H)

section
variable {X : Cx} {x n : Str} {c : Value} {i : Nat} {body suite : List Stmt} {b₀ : Stmt} {np pos pos' : Pos} {tb : WX → TS} {ts : Addr → Value → Option Addr → TS} {Wout : WX}
theorem ps_try_keep (hex : X.ex = []) (hs : X.stack = X.env :: X.outer) (hf : X.env.frame = some X.env.locals) (hN : X.N.Nodup) (hi : X.N[i]? = some n) (hln : X.env.kindOf n = some .local)
    (hc : Names X x c) (tk : Takes X Wout)
    (hb : ∀ (W : WX) (pn : List (Addr × Obj)) (xe : Value → Shared → Prop), Takes (X.tr pn xe) W → PassesOwn (model X.prog X.w) X.A X.env xe → PSs (X.tr pn xe) body (tb W))
    (hsu : ∀ (a : Addr) (oe : Obj) (cls : Value) (d : Option Addr) (pn : List (Addr × Obj)), Zc cls d oe → (∃ vs, oe.data = .fields vs) → PSs (X.suite a ((a, oe) :: pn)) (b₀ :: suite) (ts a cls d)) :
    PS X (.Try body [.ExceptHandler (some (.Name x np)) (some n) (b₀ :: suite) pos'] [] [] pos) (fun D σ H => tb (wKeep X.K c i ts Wout D) D σ H) := by
  constructor
  intro pins s σ H D I h
  have ok := I.ok
  have frA : X.A.frames = some (X.env :: X.outer) := ok.frames.trans (congrArg some hs)
  apply wpAny_Try_except
  let catch_ : Value → Shared → Prop := fun e s₁ => wpAny (model X.prog X.w) X.A (noteFrame e X.env)
    (fun _ s₂ => wpAny (model X.prog X.w) X.A (setFlight e none)
      (fun _ s₃ => wpAny (model X.prog X.w) X.A (handleBy e X.env [.ExceptHandler (some (.Name x np)) (some n) (b₀ :: suite) pos']) (SP X pins D) X.xe s₃) X.xe s₂) X.xe s₁
  have takes : Takes (X.tr (X.pn ++ pins) catch_) (wKeep X.K c i ts Wout D) := by
    intro u s' xx
    obtain ⟨a, B, sI, pins', σ', H', cls, d, ru, J', nb, up, sky, na, os, ag, b, test, yes, no⟩ := xx
    subst ru
    have J : Inv X pins σ' H' sI := J'.ofTry ok
    rw [show (X.tr (X.pn ++ pins) catch_).stack = X.env :: X.outer from hs] at sky
    show wpAny (model X.prog X.w) X.A (noteFrame (.ref a) X.env) _ _ _
    apply Sky.land Zc.steady frA hf sky
    intro h3 fl3 up3
    have J3 : Inv X pins σ' H' { s' with heap := h3 } := J.landed nb fl3.1 (up.trans up3) os ag
    obtain ⟨oe3, vs3, he3, hz3, hd3⟩ := fl3.there
    have nfr : a ∉ frs (X.env :: X.outer) := by
      intro hm
      obtain ⟨_, o', e', hnf⟩ := fl3.2.2.1.mem hm
      rw [he3] at e'
      cases e'
      exact hnf _ hd3
    have nL : a ≠ X.env.locals := by
      intro z
      exact nfr (List.mem_filterMap.mpr ⟨X.env, List.mem_cons_self, hf.trans (congrArg some z.symm)⟩)
    have nF : a ∉ X.fs := by
      intro hm
      obtain ⟨e, h1, h2⟩ := List.mem_filterMap.mp hm
      exact nfr (List.mem_filterMap.mpr ⟨e, List.mem_cons_of_mem _ h1, h2⟩)
    -- the error is new: the state ahead of it has no object there
    have nI : sI.heap.get? a = none := by
      cases q : sI.heap.get? a with
      | none => rfl
      | some o =>
        have z := nb a o q (by show a ∉ frs X.stack; rw [hs]; exact nfr)
        rw [fl3.2.1] at z
        cases z
    have n0 : X.s_0.heap.get? a = none := by
      cases q : X.s_0.heap.get? a with
      | none => rfl
      | some o =>
        obtain ⟨o', z⟩ := J.base.there a o q (by rw [hex]; exact fun z => nomatch z)
        rw [nI] at z
        cases z
    have npin : ∀ p ∈ X.pn ++ pins, p.1 ≠ a := by
      intro p hp z
      have q := (J.pin p hp).1
      rw [z, nI] at q
      cases q
    have S3 := J3.suite he3 hd3 na nL nF
    refine wpAny_handleBy_cons ?_ (by intro q; cases q)
    apply codeAny_handlers_test
    have LT : PySem.W.Looks (model X.prog X.w) h3 (typeOf (.ref a)) cls := by
      intro A Q E s k q
      exact wpAny_typeOf_ref (k _ _ he3) (by rw [hz3.1]; exact q)
    have LM := PySem.W.exm_one (M := model X.prog X.w) J3.kIn LT test
    have named : ∀ {Q E : Value → Shared → Prop}, Q c { s' with heap := h3 } →
        wpAny (model X.prog X.w) (X.A.mark (some (.ref a))) (eval (.Name x np) X.env) Q E { s' with heap := h3 } := by
      intro Q E q
      obtain ⟨hg, hdb, hm | ⟨hm, hv, hnn⟩⟩ := hc
      · exact ld_glob (X := X.suite a ((a, oe3) :: (X.pn ++ pins))) S3 hg hm q hdb
      · exact ld_blt (X := X.suite a ((a, oe3) :: (X.pn ++ pins))) S3 hg hm hv q hnn hdb
    refine named (LM.here ?_)
    cases b with
    | true =>
      apply codeAny_handlers_suite_as
      apply HandSPX.lands_againZ fl3
      intro h4 fl4 up4
      have J4 : Inv X pins σ' H' { s' with heap := h4 } := J.landed nb fl4.1 ((up.trans up3).trans up4) os ag
      obtain ⟨oe4, vs4, he4, hz4, hd4⟩ := fl4.there
      refine store_ok (X := X.suite a ((a, oe4) :: (X.pn ++ pins))) (v := .ref a) (J4.suite he4 hd4 na nL nF) hN hi (.inl hln) rfl (fun s5 S5 => ?_) (.inr hln)
      refine wpAny_mono ((hsu a oe4 cls d (X.pn ++ pins) hz4 ⟨_, hd4⟩).run [] s5 _ H' _ S5 (yes rfl a na)) ?_ (fun _ _ z => False.elim z)
      intro f s6 hsp
      cases f with
      | next =>
        obtain ⟨σ6, H6, S6, q6⟩ := hsp
        obtain ⟨p1, p2, _⟩ := S6.pin (a, oe4) (List.mem_append.mpr (.inl List.mem_cons_self))
        have T6 : Inv X pins σ6 (upd H6 a (ExV cls d a)) s6 := track (S6.unsuite ok) p1 hz4 hd4 p2 n0 nL npin
        exact gone_ok T6 hN hi hln (fun s7 J7 => ⟨_, _, J7, q6⟩)
      | brk =>
        obtain ⟨_, _, _, q6⟩ := hsp
        exact False.elim q6
      | cont =>
        obtain ⟨_, _, _, q6⟩ := hsp
        exact False.elim q6
      | ret u =>
        obtain ⟨_, _, _, _, _, q6⟩ := hsp
        exact False.elim q6
    | false =>
      show wpAny _ X.A (handleBy (.ref a) X.env []) _ _ _
      apply wpAny_handleBy_nil
      obtain ⟨k1, k2, k3, oe, vs, T, oT, ts', he, hz, hd, h1, hr⟩ := id fl3
      unfold PySem.passOn
      apply wpAny_bind
      apply wpAny_field he hd h1
      rw [if_neg (show ¬ ((Value.ref T == Value.none) = true) from by simp)]
      have last : wpAny (model X.prog X.w) X.A (setFlight (.ref a) X.env.frame)
          (fun _ s4 => wpAny (model X.prog X.w) X.A (throw (.ref a) : Sem Flow) (SP X pins D) X.xe s4) X.xe { s' with heap := h3 } := by
        rw [hf]
        apply HandSPX.setFlight_upZ fl3
        intro h4 hh4 up4
        apply wpAny_throw
        exact tk _ _ ⟨a, B, sI, pins, σ', H', cls, d, rfl, J, nb, (up.trans up3).trans up4, .inr (.inr (by rw [hs]; exact hh4)), na, os, ag, no rfl⟩
      first
        | exact wpAny_bind (wpAny_pure (wpAny_bind last))
        | exact wpAny_bind last
  refine wpAny_mono ((hb _ (X.pn ++ pins) catch_ takes PassesOwn.looking).run [] s σ H D (I.toTry _) h) ?_ (fun e s1 he => he)
  intro f s1 hsp
  cases f with
  | next =>
    obtain ⟨σ', H', J', q⟩ := hsp
    exact wpAny_execs_nil ⟨σ', H', J'.ofTry ok, q⟩
  | brk =>
    obtain ⟨σ', H', J', q⟩ := hsp
    exact ⟨σ', H', J'.ofTry ok, q⟩
  | cont =>
    obtain ⟨σ', H', J', q⟩ := hsp
    exact ⟨σ', H', J'.ofTry ok, q⟩
  | ret u =>
    obtain ⟨v, σ', H', J', r, q⟩ := hsp
    exact ⟨v, σ', H', J'.ofTry ok, r, q⟩

/-- isinstance(e, c) of an error that is tracked at a -/
def rIsX (K : PySem.W.Frag) : List V → Hp → VK → Prop := fun xs H Q => ∃ (a D : Addr) (c : V) (cv : Value) (b : Bool), xs = [.ref a, c] ∧ H a = some (ExV (.ref D) none a) ∧ ExcC K D ∧
  (∀ u, RelV c u → u = cv) ∧ PySem.W.kitOne K (.ref D) cv = some b ∧ Q (.bl b) H
theorem call_isX {X : Cx} : CallR X (.builtin "isinstance") (rIsX X.K) := by
  intro pins s σ H xs us Q I r h
  obtain ⟨a, D, c, cv, b, rfl, hH, C, hcv, e, q⟩ := h
  obtain ⟨u1, u2, rfl, r1, r2⟩ := vals2 r
  cases (show u1 = Value.ref a from r1)
  have ec := hcv _ r2
  subst ec
  obtain ⟨⟨oe, vs, hget, hz, hv⟩, _, _⟩ := (show ObjOk X.prog X.w H s.heap a (ExV (.ref D) none a) from I.hok a _ hH)
  have J : PySem.W.InstAt s.heap a oe D none := by
    obtain ⟨oc, od, oda, osl⟩ := oe
    obtain ⟨h1, h2⟩ := hz
    dsimp only at h1 h2 hv
    subst h1 h2 hv
    exact ⟨hget, rfl, rfl, trivial⟩
  exact PySem.W.kia_one (PySem.W.handS_kitx_exc C.hg C.hk C.hs C.hd C.ha C.hn C.ht C.hm) I.kIn J e (fun z => nomatch z) fun tk => ⟨.bl b, H, I.kept (t' := tk) fun _ _ z => z, rfl, q⟩
/-- isinstance of a value or of a tracked error -/
theorem call_isV {X : Cx} : CallR X (.builtin "isinstance") (fun xs H Q => rIsi X.K xs H Q ∨ rIsX X.K xs H Q) := by
  intro pins s σ H xs us Q I r h
  rcases h with h | h
  · exact call_isi pins s σ H xs us Q I r h
  · exact call_isX pins s σ H xs us Q I r h
/-- what an own error class says -/
structure ExFacts (K : PySem.W.Frag) (C : Addr) : Prop where
  x : PySem.W.excIn K C [.type "ValueError", .type "Exception", .type "BaseException", .type "object"] "ValueError.__new__" = true
  k : PySem.W.keepIn K (.ref C) = true
  b : PySem.W.subIn K (.ref C) (.type "BaseException") = some true
  t : PySem.W.typeIn K (.ref C) = some (.type "type")
  c : ExcC K C
end
end My

/-! Small words used by all laws: kinds of values, ways, heaps, comprehensions over lists. -/
namespace My
open PySem PySem.Spec PyProof.Rows L2

/-! ### ways -/
theorem iteD {p : Prop} [Decidable p] {A B : Prop} (h1 : p → A) (h2 : ¬ p → B) : if decide p = true then A else B := by
  by_cases h : p
  · rw [decide_eq_true h, if_pos rfl]
    exact h1 h
  · rw [decide_eq_false h, if_neg Bool.false_ne_true]
    exact h2 h
theorem iteND {p : Prop} [Decidable p] {A B : Prop} (h1 : ¬ p → A) (h2 : p → B) : if (!decide p) = true then A else B := by
  by_cases h : p
  · rw [decide_eq_true h, if_neg (by decide)]
    exact h2 h
  · rw [decide_eq_false h, if_pos (by decide)]
    exact h1 h
theorem iteB {b : Bool} {A B : Prop} (h1 : b = true → A) (h2 : b = false → B) : if b = true then A else B := by
  cases b with
  | true => exact h1 rfl
  | false => exact h2 rfl

/-- a written divisor -/
theorem md {j : Int} (h : decide (0 < j) = true) : 0 < j := of_decide_eq_true h
theorem dv {i j : Int} (h : (decide (0 < j) && decide (j < 1073741824)) = true) : CDiv i j := by
  rw [Bool.and_eq_true] at h
  exact ⟨of_decide_eq_true h.1, of_decide_eq_true h.2⟩

/-! ### heaps -/
theorem same_new {H : Hp} {p : Addr} {o : HO} (h : H p = none) : Same H (upd H p o) := fun b x e => by
  rw [upd_ne (ne_of_none e h)]
  exact e
theorem same_old {H H' : Hp} {p : Addr} {o : HO} (e : Same H H') (h : H p = none) : Same H (upd H' p o) := fun b x q => by
  rw [upd_ne (ne_of_none q h)]
  exact e b x q
theorem sz_ok {n : Nat} (h : n ≤ 1000000) : n ≤ sizeLine := Nat.le_trans h (by decide)
theorem sz_lt {n : Nat} (h : n < 1000000) : n < sizeLine := Nat.lt_of_lt_of_le h (by decide)
theorem sq_of {K : PySem.W.Frag} {H : Hp} {a : Addr} {xs : List V} (h : H a = some (.lst xs)) : SqL K H a xs := .inl (.inl h)
theorem st_of {K : PySem.W.Frag} {H : Hp} {a : Addr} {xs : List V} (h : H a = some (.tup xs)) : SqT K H a xs := .inl (.inl h)

/-! ### kinds of values -/
inductive Kd (H : Hp) : V → String → Prop
  | int (i : Int) : Kd H (.int i) "int"
  | bl (b : Bool) : Kd H (.bl b) "bool"
  | non : Kd H .non "NoneType"
  | str (x : Str) : Kd H (.str x) "str"
  | lst {a : Addr} {xs : List V} (h : H a = some (.lst xs)) : Kd H (.ref a) "list"
  | tup {a : Addr} {xs : List V} (h : H a = some (.tup xs)) : Kd H (.ref a) "tuple"
  | dct {a : Addr} {kvs : List (Key × V)} (h : H a = some (.dK kvs)) : Kd H (.ref a) "dict"
section
variable {H H' : Hp} {v : V} {n : String} {K : PySem.W.Frag}
theorem Kd.ty (k : Kd H v n) : TyX K H v (.type n) := by
  cases k with
  | int i => exact .base (.int i)
  | bl b => exact .base (.bl b)
  | non => exact .base .non
  | str x => exact .base (.str x)
  | lst h => exact .base (.lst h)
  | tup h => exact .base (.tup h)
  | dct h => exact .base (.dK h)
theorem Kd.mono (e : Same H H') (k : Kd H v n) : Kd H' v n := by
  cases k with
  | int i => exact .int i
  | bl b => exact .bl b
  | non => exact .non
  | str x => exact .str x
  | lst h => exact .lst (e _ _ h)
  | tup h => exact .tup (e _ _ h)
  | dct h => exact .dct (e _ _ h)
def isIntB : V → Bool
  | .int _ => true
  | .bl _ => true
  | _ => false
def isBlB : V → Bool
  | .bl _ => true
  | _ => false
def isNum : V → Bool
  | .int _ => true
  | _ => false
theorem Kd.kInt (k : Kd H v n) : kitB n "int" = some (isIntB v) := by
  cases k <;> (simp only [isIntB]; decide +kernel)
theorem Kd.kBool (k : Kd H v n) : kitB n "bool" = some (isBlB v) := by
  cases k <;> (simp only [isBlB]; decide +kernel)
def lstOf (H : Hp) : V → Option (List V)
  | .ref a => (match H a with
    | some (.lst xs) => some xs
    | _ => none)
  | _ => none
theorem lstOf_ref {a : Addr} {xs : List V} (h : H a = some (.lst xs)) : lstOf H (.ref a) = some xs := by
  show (match H a with
    | some (.lst xs) => some xs
    | _ => none) = some xs
  rw [h]
theorem lstOf_some {xs : List V} (h : lstOf H v = some xs) : ∃ a, v = .ref a ∧ H a = some (.lst xs) := by
  unfold lstOf at h
  split at h
  · rename_i a
    split at h
    · rename_i ys e
      cases h
      exact ⟨a, rfl, e⟩
    · cases h
  · cases h
theorem Kd.kListN (k : Kd H v n) (h : lstOf H v = none) : kitB n "list" = some false := by
  cases k with
  | lst e => rw [lstOf_ref e] at h; cases h
  | _ => decide +kernel
theorem Kd.kListS (k : Kd H v n) {xs : List V} (h : lstOf H v = some xs) : kitB n "list" = some true := by
  obtain ⟨a, rfl, e⟩ := lstOf_some h
  cases k with
  | lst e' => decide +kernel
  | tup e' => rw [e] at e'; cases e'
  | dct e' => rw [e] at e'; cases e'
end

/-! ### a comprehension over a list: what it makes, in one word -/
section
variable {K : PySem.W.Frag}
/-- the items that are kept, by f; the source stands still -/
theorem lc_map {a : Addr} {xs : List V} {g : TG} {tt : TT} {te : TE} {vs : List Nat} {σ : L2.St} {H1 : Hp} {D : Addr} {Qd : Hp → Prop} (keep : V → Bool) (f : V → V)
    (nD : H1 D = none) (hS : SqL K H1 a xs) (len : xs.length < 1000000)
    (hs : ∀ x H' (R : V → Hp → Prop) (N : Hp → Prop), x ∈ xs → Same H1 H' → (keep x = true → ∀ H4, Same H' H4 → R (f x) H4) → (keep x = false → ∀ H4, Same H' H4 → N H4) →
      g x (wipe σ vs) H' fun σ2 H2 => wipe σ2 vs = wipe σ vs ∧ tt σ2 H2 fun b H3 => if b = true then te σ2 H3 R else N H3)
    (hd : ∀ H', Same H1 H' → H' D = some (.lst ((xs.filter keep).map f)) → Qd H') :
    ∃ W : Nat → Nat → Hp → Prop, (∃ m, W 0 m (upd H1 D (.lst []))) ∧ ∀ i m H, W i m H →
      ((Itl K a).stop i H ∧ Qd H) ∨ ((Itl K a).go i H ∧ ∃ Nx : Hp → Prop, (∀ H', Nx H' → ∃ m', m' < m ∧ W (i + 1) m' H') ∧ ∀ x H', (Itl K a).yld i H x H' → g x (wipe σ vs) H' fun σ2 H2 => wipe σ2 vs = wipe σ vs ∧ tt σ2 H2 fun b H3 =>
        if b = true then te σ2 H3 fun y H4 => ∃ acc, H4 D = some (.lst acc) ∧ acc.length < sizeLine ∧ Nx (upd H4 D (.lst (acc ++ [y]))) else Nx H3) := by
  refine lc_list (K := K) (a := a) (xs := xs) (fun i H => Same H1 H ∧ H D = some (.lst (((xs.take i).filter keep).map f))) ⟨same_new nD, upd_same⟩ (fun i H _ p => p.1.seq hS) ?_ ?_
  · intro i x H hi p
    obtain ⟨p1, p2⟩ := p
    have tk : xs.take (i + 1) = xs.take i ++ [x] := by
      rw [List.take_add_one, hi]
      rfl
    refine hs x H _ _ (List.mem_of_getElem? hi) p1 (fun kx H4 e4 => ?_) (fun kx H4 e4 => ?_)
    · refine ⟨_, e4 _ _ p2, ?_, fun b o e => ?_, ?_⟩
      · refine sz_lt (Nat.lt_of_le_of_lt ?_ len)
        rw [List.length_map]
        refine Nat.le_trans (List.length_filter_le _ _) ?_
        rw [List.length_take]
        exact Nat.min_le_right _ _
      · rw [upd_ne (ne_of_none e nD)]
        exact e4 _ _ (p1 _ _ e)
      · rw [upd_same, tk, List.filter_append, List.map_append]
        simp [List.filter_cons, kx]
    · refine ⟨p1.trans e4, ?_⟩
      rw [e4 _ _ p2, tk, List.filter_append, List.map_append]
      simp [List.filter_cons, kx]
  · intro H p
    obtain ⟨p1, p2⟩ := p
    rw [List.take_length] at p2
    exact hd H p1 p2
/-- all items -/
theorem lc_all {a : Addr} {xs : List V} {g : TG} {tt : TT} {te : TE} {vs : List Nat} {σ : L2.St} {H1 : Hp} {D : Addr} {Qd : Hp → Prop} (f : V → V)
    (nD : H1 D = none) (hS : SqL K H1 a xs) (len : xs.length < 1000000)
    (hs : ∀ x H' (R : V → Hp → Prop), x ∈ xs → Same H1 H' → (∀ H4, Same H' H4 → R (f x) H4) →
      ∀ N : Hp → Prop, g x (wipe σ vs) H' fun σ2 H2 => wipe σ2 vs = wipe σ vs ∧ tt σ2 H2 fun b H3 => if b = true then te σ2 H3 R else N H3)
    (hd : ∀ H', Same H1 H' → H' D = some (.lst (xs.map f)) → Qd H') :
    ∃ W : Nat → Nat → Hp → Prop, (∃ m, W 0 m (upd H1 D (.lst []))) ∧ ∀ i m H, W i m H →
      ((Itl K a).stop i H ∧ Qd H) ∨ ((Itl K a).go i H ∧ ∃ Nx : Hp → Prop, (∀ H', Nx H' → ∃ m', m' < m ∧ W (i + 1) m' H') ∧ ∀ x H', (Itl K a).yld i H x H' → g x (wipe σ vs) H' fun σ2 H2 => wipe σ2 vs = wipe σ vs ∧ tt σ2 H2 fun b H3 =>
        if b = true then te σ2 H3 fun y H4 => ∃ acc, H4 D = some (.lst acc) ∧ acc.length < sizeLine ∧ Nx (upd H4 D (.lst (acc ++ [y]))) else Nx H3) := by
  refine lc_map (fun _ => true) f nD hS len (fun x H' R N hx e r _ => hs x H' R hx e (r rfl) N) fun H' e q => hd H' e ?_
  rw [q, List.filter_eq_self.mpr (fun _ _ => rfl)]
/-- the same over a tuple -/
theorem lt_all {a : Addr} {xs : List V} {g : TG} {tt : TT} {te : TE} {vs : List Nat} {σ : L2.St} {H1 : Hp} {D : Addr} {Qd : Hp → Prop} (f : V → V)
    (nD : H1 D = none) (hS : H1 a = some (.tup xs)) (len : xs.length < 1000000)
    (hs : ∀ x H' (R : V → Hp → Prop), x ∈ xs → Same H1 H' → (∀ H4, Same H' H4 → R (f x) H4) →
      ∀ N : Hp → Prop, g x (wipe σ vs) H' fun σ2 H2 => wipe σ2 vs = wipe σ vs ∧ tt σ2 H2 fun b H3 => if b = true then te σ2 H3 R else N H3)
    (hd : ∀ H', Same H1 H' → H' D = some (.lst (xs.map f)) → Qd H') :
    ∃ W : Nat → Nat → Hp → Prop, (∃ m, W 0 m (upd H1 D (.lst []))) ∧ ∀ i m H, W i m H →
      ((Itt K a).stop i H ∧ Qd H) ∨ ((Itt K a).go i H ∧ ∃ Nx : Hp → Prop, (∀ H', Nx H' → ∃ m', m' < m ∧ W (i + 1) m' H') ∧ ∀ x H', (Itt K a).yld i H x H' → g x (wipe σ vs) H' fun σ2 H2 => wipe σ2 vs = wipe σ vs ∧ tt σ2 H2 fun b H3 =>
        if b = true then te σ2 H3 fun y H4 => ∃ acc, H4 D = some (.lst acc) ∧ acc.length < sizeLine ∧ Nx (upd H4 D (.lst (acc ++ [y]))) else Nx H3) := by
  refine lc_tup (K := K) (a := a) (xs := xs) (fun i H => Same H1 H ∧ H D = some (.lst ((xs.take i).map f))) ⟨same_new nD, upd_same⟩ (fun i H _ p => st_of (p.1 _ _ hS)) ?_ ?_
  · intro i x H hi p
    obtain ⟨p1, p2⟩ := p
    have tk : xs.take (i + 1) = xs.take i ++ [x] := by
      rw [List.take_add_one, hi]
      rfl
    refine hs x H _ (List.mem_of_getElem? hi) p1 (fun H4 e4 => ?_) _
    refine ⟨_, e4 _ _ p2, ?_, fun b o e => ?_, ?_⟩
    · refine sz_lt (Nat.lt_of_le_of_lt ?_ len)
      rw [List.length_map, List.length_take]
      exact Nat.min_le_right _ _
    · rw [upd_ne (ne_of_none e nD)]
      exact e4 _ _ (p1 _ _ e)
    · rw [upd_same, tk, List.map_append]
      rfl
  · intro H p
    obtain ⟨p1, p2⟩ := p
    rw [List.take_length] at p2
    exact hd H p1 p2
end

/-! ### rules with the written part told (for a comprehension's block) -/
def rListOf (K : PySem.W.Frag) : List V → Hp → VK → Prop := fun xs H Q => ∃ p ys, xs = [.ref p] ∧ (SqL K H p ys ∨ SqT K H p ys) ∧ ∀ l, H l = none → Q (.ref l) (upd H l (.lst ys))
theorem call_listOf {X : Cx} : CallR X (.type "list") (rListOf X.K) := call_list_of
def rLenSeq (K : PySem.W.Frag) : List V → Hp → VK → Prop := fun xs H Q => ∃ p ys, xs = [.ref p] ∧ (SqL K H p ys ∨ SqT K H p ys) ∧ Q (.int ys.length) H
theorem call_lenSeq {X : Cx} : CallR X (.builtin "len") (rLenSeq X.K) := call_len_seq
/-! ### data: what stands at v is x -/
section
open PySem.W (Datum Tup)
variable {α β : Type} [DecidableEq α] [Datum α] [DecidableEq β] [Datum β] {K : PySem.W.Frag} {H H' : Hp}
def Is (K : PySem.W.Frag) (H : Hp) (v : V) (x : α) : Prop := Dp K H v (Datum.toD x)
theorem is_int (i : Int) : Is K H (.int i) i := .int i
theorem is_bl (b : Bool) : Is K H (.bl b) b := .bl b
theorem is_str (s : Str) : Is K H (.str s) s := .str s
/-- item by item -/
inductive IsAll (K : PySem.W.Frag) (H : Hp) : List V → List α → Prop
  | nil : IsAll K H [] []
  | cons {v : V} {vs : List V} {x : α} {xs : List α} (h : Is K H v x) (t : IsAll K H vs xs) : IsAll K H (v :: vs) (x :: xs)
theorem IsAll.dp {vs : List V} {xs : List α} (h : IsAll K H vs xs) : DpAll K H vs (xs.map Datum.toD) := by
  induction h with
  | nil => exact .nil
  | cons h t ih => exact .cons h ih
theorem IsAll.map {γ : Type} (f : γ → V) (g : γ → α) : ∀ (l : List γ), (∀ y ∈ l, Is K H (f y) (g y)) → IsAll K H (l.map f) (l.map g)
  | [], _ => .nil
  | y :: r, h => .cons (h y List.mem_cons_self) (IsAll.map f g r fun z hz => h z (List.mem_cons_of_mem _ hz))
theorem IsAll.ints (ns : List Int) : IsAll K H (ns.map V.int) ns := by
  have q := IsAll.map (K := K) (H := H) V.int id ns (fun y _ => is_int y)
  rw [List.map_id] at q
  exact q
theorem IsAll.strs : ∀ ns : List Str, IsAll K H (ns.map V.str) ns
  | [] => .nil
  | s :: r => .cons (is_str s) (IsAll.strs r)
theorem is_list {a : Addr} {vs : List V} {xs : List α} (h : SqL K H a vs) (t : IsAll K H vs xs) : Is K H (.ref a) xs := by
  show Dp K H (.ref a) (.list (xs.map Datum.toD))
  exact .lst h t.dp
theorem is_tup {a : Addr} {vs : List V} {xs : List α} (h : SqT K H a vs) (t : IsAll K H vs xs) : Is K H (.ref a) (Tup.mk xs) := by
  show Dp K H (.ref a) (.tuple (xs.map Datum.toD))
  exact .tup h t.dp
theorem is_pair {a : Addr} {v u : V} {x : α} {y : β} (h : SqT K H a [v, u]) (hx : Is K H v x) (hy : Is K H u y) : Is K H (.ref a) (x, y) := by
  show Dp K H (.ref a) (.tuple [Datum.toD x, Datum.toD y])
  exact .tup h (.cons hx (.cons hy .nil))
theorem is_ints {a : Addr} {ns : List Int} (h : SqL K H a (ns.map V.int)) : Is K H (.ref a) ns := is_list h (.ints ns)
/-- == and != of data -/
def rEqP (K : PySem.W.Frag) : R2 := fun x y H Q => ∃ d e, Dp K H x d ∧ Dp K H y e ∧ d.plain = true ∧ e.plain = true ∧ d.depth ≤ 64 ∧ Q (.bl (PyData.eqv d e)) H
def rNeP (K : PySem.W.Frag) : R2 := fun x y H Q => ∃ d e, Dp K H x d ∧ Dp K H y e ∧ d.plain = true ∧ e.plain = true ∧ d.depth ≤ 64 ∧ Q (.bl (!PyData.eqv d e)) H
theorem op_eqP {X : Cx} (hu : X.A.units + 64 < cLine) : OpR X (compareOp .Eq) (rEqP X.K) := by
  intro pins s σ H x y v u Q I rx ry h
  obtain ⟨d, e, hd, he, pd, pe, hdep, q⟩ := h
  obtain ⟨as, r1⟩ := Dp.reads I d x v hd rx
  obtain ⟨bs, r2⟩ := Dp.reads I e y u he ry
  refine PySem.SeqAt.eq_plain r1 r2 pd pe ?_ ⟨.bl _, H, I, rfl, q⟩
  have := Nat.min_le_left d.depth e.depth
  omega
theorem op_neP {X : Cx} (hu : X.A.units + 64 < cLine) : OpR X (compareOp .NotEq) (rNeP X.K) := by
  intro pins s σ H x y v u Q I rx ry h
  obtain ⟨d, e, hd, he, pd, pe, hdep, q⟩ := h
  obtain ⟨as, r1⟩ := Dp.reads I d x v hd rx
  obtain ⟨bs, r2⟩ := Dp.reads I e y u he ry
  refine PySem.SeqAt.ne_plain r1 r2 pd pe ?_ ⟨.bl _, H, I, rfl, q⟩
  have := Nat.min_le_left d.depth e.depth
  omega
/-- what is wanted of them -/
theorem eq_is {v u : V} {x y : α} {Q : VK} (hx : Is K H v x) (hy : Is K H u y) (q : Q (.bl (decide (x = y))) H) (h : Datum.depth α ≤ 64 := by decide) : rEqP K v u H Q :=
  ⟨_, _, hx, hy, Datum.plain x, Datum.plain y, Nat.le_trans (Datum.depth_le x) h, by rw [Datum.eqv]; exact q⟩
theorem ne_is {v u : V} {x y : α} {Q : VK} (hx : Is K H v x) (hy : Is K H u y) (q : Q (.bl (!decide (x = y))) H) (h : Datum.depth α ≤ 64 := by decide) : rNeP K v u H Q :=
  ⟨_, _, hx, hy, Datum.plain x, Datum.plain y, Nat.le_trans (Datum.depth_le x) h, by rw [Datum.eqv]; exact q⟩
end
end My

/-! sorted(d.items()) of a dict of whole numbers, of any size: its pairs, sorted, each a new tuple. -/
namespace My
open PySem PySem.Spec PyProof.Rows L2

/-- an entry of whole numbers -/
def entI (p : Int × Int) : Key × V := (Sum.inl p.1, .int p.2)
/-- a pair read off an object -/
def pairAt (h : Heap) : Value → Int × Int
  | .ref a => (match h.get? a with
    | some ob => (match ob.data with
      | .seq its _ => (match its.toList with
        | [.int x _, .int y _] => (x, y)
        | _ => (0, 0))
      | _ => (0, 0))
    | none => (0, 0))
  | _ => (0, 0)
def refAt : Value → Addr
  | .ref a => a
  | _ => 0
theorem pairAt_of {h : Heap} {a : Addr} {x y : Int} {t u : Tok} (e : h.get? a = some { cls := .type "tuple", data := .seq #[.int x t, .int y u] }) : pairAt h (.ref a) = (x, y) := by
  show (match h.get? a with
    | some ob => (match ob.data with
      | .seq its _ => (match its.toList with
        | [.int x _, .int y _] => (x, y)
        | _ => (0, 0))
      | _ => (0, 0))
    | none => (0, 0)) = (x, y)
  rw [e]
def rSortedItems : V → Hp → VK → Prop := fun x H Q => ∃ (d : Addr) (kvs : List (Int × Int)), x = .ref d ∧ H d = some (.dK (kvs.map entI)) ∧
  ∀ (H' : Hp) (p : Addr) (ps : List (Addr × Int × Int)), Same H H' → H p = none → (∀ z ∈ ps, H z.1 = none) → p ∉ ps.map (·.1) → (ps.map (·.1)).Nodup →
    (ps.map (·.2)).Perm kvs → (ps.map (·.2)).Pairwise (fun a b => SrtO.lexB b a = false) → H' p = some (.lst (ps.map fun z => V.ref z.1)) →
    (∀ z ∈ ps, H' z.1 = some (.tup [.int z.2.1, .int z.2.2])) → Q (.ref p) H'
def tSortedItems (te : TE) : TE := fun σ H Q => te σ H fun x H1 => rSortedItems x H1 Q
section
variable {X : Cx} {e : Expr} {te : TE} {p apos cpos pos : Pos}
theorem ints_entries : ∀ {kvs : List (Int × Int)} {vs : List (Key × Value)}, KV (kvs.map entI) vs → ∀ {j : Nat} {q : Key × Value}, vs[j]? = some q → ∃ (z : Int × Int) (t : Tok), kvs[j]? = some z ∧ q = (Sum.inl z.1, .int z.2 t)
  | [], _, .nil, j, q, h => by simp at h
  | z :: r, _, .cons hz t, 0, q, h => by
    have e := Option.some.inj h
    subst e
    obtain ⟨e1, tk, e2⟩ := hz
    exact ⟨z, tk, rfl, Prod.ext e1.symm e2⟩
  | z :: r, _, .cons hz t, j + 1, q, h => ints_entries t (j := j) h
theorem pe_sortedItems (hc : X.calm = true) (he : PE X e te) (hg : Gl X "sorted") (hm : X.mg "sorted" = none) (hv : bootBuiltins "sorted" = some (.builtin "sorted"))
    (hbase : attributeBase e "items" X.env (eval e X.env) = eval e X.env := by rfl) (hline : (apos.endLine == cpos.line) = true := by rfl)
    (hs : starEach [.Call (.Attribute e "items" apos) [] [] cpos] X.env = (false, eval (.Call (.Attribute e "items" apos) [] [] cpos) X.env) :: starEach [] X.env := by rfl) :
    PE X (.Call (.Name "sorted" p) [.Call (.Attribute e "items" apos) [] [] cpos] [] pos) (tSortedItems te) := by
  refine ⟨fun pins s σ H Q I hq => ?_⟩
  apply wpAny_Call_Name_kw
  apply ld_blt I hg hm hv
  refine PyProof.Rows.callWith_builtin1 ?_ hs rfl
  rw [hs]
  show wpAny _ _ (spliced ((false, eval (.Call (.Attribute e "items" apos) [] [] cpos) X.env) :: backTo pos (starEach [] X.env))) _ _ s
  apply Calls.spliced_cons
  refine wpAny_Call_method (T := "dict") (id := "dict.items") hbase rfl hline F.plainAttrs_dict F.slot_dict_items F.type_dict_items (thn (he.run pins s σ H _ I hq) fun u s1 hu => ?_)
  obtain ⟨x, H1, I1, rx, d, kvs, ex, hd, q⟩ := hu
  subst ex
  obtain rfl : u = Value.ref d := rx
  obtain ⟨hz, hs0, vs, kv, hdo⟩ := (show ObjOk X.prog X.w H1 s1.heap d (.dK (kvs.map entI)) from I1.hok d _ hd)
  obtain ⟨ep, hat⟩ := hdo.dictAt
  have lk : (kvs.map entI).length = vs.length := Paired.length kv
  have lk2 : kvs.length = vs.length := by rw [← lk, List.length_map]
  have I2 : Inv X pins σ H1 { s1 with heap := s1.heap.push { cls := .type "dict_items", data := .fields #[.ref d] } } := I1.kept (t' := s1.toks) fun b ob z => Heap.get?_push_of_some _ z
  refine ⟨hdo.typeIs, hdo.mapOf.noDict, ?_⟩
  show wpAny _ _ (callWith cpos (.builtin "dict.items") [.ref d] [] []) _ X.xe s1
  refine method_meetsIn F.slot_dict_items F.entry_dict_items rfl (PySem.evalArgs_none ⟨rfl, hdo.typeIs, F.args_dict_items_1 _, _, meets_dict_items (mixKind X.prog X.w) d hs0, ⟨vs, hdo⟩, ?_⟩)
  apply Calls.spliced_nil
  -- sorted of the view
  generalize hs2 : ({ s1 with heap := s1.heap.push { cls := .type "dict_items", data := .fields #[.ref d] } } : Shared) = s2 at I2
  have hh : X.A.handled = none := I1.ok.hd hc
  have view : s2.heap.IsItemsView s1.heap.objs.size d := by rw [← hs2]; exact ⟨_, Heap.get?_push_size _ rfl, rfl, rfl⟩
  have hat2 : s2.heap.DictAt (mixKind X.prog X.w) d vs ep := by rw [← hs2]; exact hat.push _
  show wpAny _ _ (call (.builtin "sorted") [.ref s1.heap.objs.size]) _ _ _
  refine Calls.call_function_entry kind_sorted plain_sorted entry_sorted (args_sorted1 _) ?_
  unfold Builtin.«sorted»
  refine wpAny_bind (m := checkCount "sorted" 1 1 _) (wpAny_pure ?_)
  refine wpAny_bind (PySem.W.kdx_collect (knd := mixKind X.prog X.w) (kvs := vs) (ep := ep) (A := X.A.in1) hh view hat2 (by omega) fun h' tk as hk hl hG => ?_)
  have llen : (as.map Value.ref).length = vs.length := by rw [List.length_map, hl]
  refine wpAny_bind (wpAny_newList ?_ (by omega))
  have nd : as.Nodup := List.Pairwise.imp (fun {a b} (h : a < b) => Nat.ne_of_lt h) hG.rise
  have hob : (h'.push { cls := .type "list", data := .seq (as.map Value.ref).toArray }).get? h'.objs.size = some (seqObj "list" (as.map Value.ref).toArray 0) := Heap.get?_push_size _ rfl
  have ka : ∀ b o, h'.get? b = some o → (h'.push { cls := .type "list", data := .seq (as.map Value.ref).toArray }).get? b = some o := fun b o z => Heap.get?_push_of_some _ z
  have ne0 : ∀ b o, h'.get? b = some o → b ≠ h'.objs.size := fun b o z => Nat.ne_of_lt (Heap.lt_size z)
  show wpAny _ _ _ _ _ { s2 with heap := h'.push { cls := .type "list", data := .seq (as.map Value.ref).toArray }, toks := tk }
  generalize h'.push { cls := .type "list", data := .seq (as.map Value.ref).toArray } = h2 at hob ka ⊢
  -- the pairs that were made
  have prs : ∀ (j : Nat) (b : Addr), as[j]? = some b → ∃ (z : Int × Int) (t u : Tok), kvs[j]? = some z ∧ h2.get? b = some { cls := .type "tuple", data := .seq #[.int z.1 t, .int z.2 u] } := by
    intro j b hj
    obtain ⟨key, k, y, e1, e2, e3⟩ := hG.pairs j b hj
    obtain ⟨z, t, e4, e5⟩ := ints_entries kv e1
    cases e5
    obtain ⟨tk1, ek⟩ := Value.isInt_shape (k := z.1) (v := key) e2
    subst ek
    exact ⟨z, tk1, t, e4, ka _ _ e3⟩
  have isP : ∀ v ∈ as.map Value.ref, Srt.IsPair h2 v (pairAt h2 v).1 (pairAt h2 v).2 := by
    intro v hv'
    obtain ⟨b, hb, rfl⟩ := List.mem_map.mp hv'
    obtain ⟨j, hj⟩ := List.mem_iff_getElem?.mp hb
    obtain ⟨z, t, u, _, hz2⟩ := prs j b hj
    rw [pairAt_of hz2]
    exact ⟨b, _, t, u, 0, rfl, hz2, rfl, rfl⟩
  have hvals : (as.map Value.ref).map (pairAt h2) = kvs := by
    apply List.ext_getElem?
    intro j
    rw [List.getElem?_map, List.getElem?_map]
    cases hj : as[j]? with
    | none =>
      have h1 := List.getElem?_eq_none_iff.mp hj
      rw [List.getElem?_eq_none (by omega)]
      rfl
    | some b =>
      obtain ⟨z, t, u, e4, hz2⟩ := prs j b hj
      rw [e4]
      show some (pairAt h2 (.ref b)) = some z
      rw [pairAt_of hz2]
  refine wpAny_bind (wpAny_holding (wpAny_call_entry slot_list_sort ⟨_, hob, rfl⟩ entry_list_sort
    (SrtO.list_sort_ord (SrtO.swo_lex (pairAt h2)) hob (by omega) (fun h2' => SrtO.pairs_sortableO (by omega) isP fun o z => ?_) fun out hso hst => ⟨_, rfl, ?_⟩) (args_list_sort _)))
  · have z2 : some o = some (seqObj "list" (as.map Value.ref).toArray 0) := z.symm.trans hob
    cases z2
    intro c
    exact absurd (Value.type.inj c) (by decide)
  refine wpAny_pure ⟨_, rfl, ?_⟩
  show EP X pins σ Q (.ref h'.objs.size) { s2 with heap := sortedHeap h2 h'.objs.size (as.map Value.ref) out.toArray, toks := tk }
  have kF : ∀ b o, b ≠ h'.objs.size → h2.get? b = some o → (sortedHeap h2 h'.objs.size (as.map Value.ref) out.toArray).get? b = some o := fun b o hb z => (PyProof.Rows.sortedHeap_old hb (Heap.lt_size z)).trans z
  have kS : ∀ b o, s2.heap.get? b = some o → (sortedHeap h2 h'.objs.size (as.map Value.ref) out.toArray).get? b = some o := fun b o z => kF b o (ne0 _ _ (hk b o z)) (ka _ _ (hk b o z))
  obtain ⟨eF, heF⟩ := PyProof.Rows.sortedHeap_at (vs := as.map Value.ref) (out := out.toArray) hob
  have refs : ∀ v ∈ out, ∃ b, v = .ref b ∧ b ∈ as := by
    intro v hv'
    obtain ⟨b, hb, rfl⟩ := List.mem_map.mp (hst.perm.mem_iff.mp hv')
    exact ⟨b, rfl, hb⟩
  have big : s2.heap.objs.size ≤ h'.objs.size := by
    rcases Nat.lt_or_ge h'.objs.size s2.heap.objs.size with hlt | hge
    · obtain ⟨o, z⟩ : ∃ o, s2.heap.get? s1.heap.objs.size = some o := let ⟨o, z, _⟩ := view; ⟨o, z⟩
      have z2 : s1.heap.objs.size < h'.objs.size := Heap.lt_size (hk _ _ z)
      have z3 : s2.heap.objs.size = s1.heap.objs.size + 1 := by rw [← hs2]; exact Heap.size_push _ _
      omega
    · exact hge
  have hn0 : H1 h'.objs.size = none := I2.hok.fresh big
  have I3 : Inv X pins σ H1 { s2 with heap := sortedHeap h2 h'.objs.size (as.map Value.ref) out.toArray, toks := tk } := I2.kept (t' := tk) kS
  have backs : out.map (fun v => Value.ref (refAt v)) = out := by
    have : ∀ l : List Value, (∀ v ∈ l, ∃ b, v = .ref b ∧ b ∈ as) → l.map (fun v => Value.ref (refAt v)) = l := by
      intro l
      induction l with
      | nil => intro _; rfl
      | cons v r ih =>
        intro hl
        obtain ⟨b, rfl, _⟩ := hl v List.mem_cons_self
        rw [List.map_cons, ih fun z hz => hl z (List.mem_cons_of_mem _ hz)]
        rfl
    exact this out refs
  have rv : Vals (out.map fun v => V.ref (refAt v)) out.toArray.toList := by
    have : Vals (out.map fun v => V.ref (refAt v)) (out.map fun v => Value.ref (refAt v)) := by
      clear backs heF kS kF hso hst refs I3
      induction out with
      | nil => exact .nil
      | cons v r ih => exact .cons rfl ih
    rw [backs] at this
    exact this
  have lenO : out.length = vs.length := by rw [hst.perm.length_eq, llen]
  have I4 : Inv X pins σ (upd H1 h'.objs.size (.lst (out.map fun v => V.ref (refAt v)))) { s2 with heap := sortedHeap h2 h'.objs.size (as.map Value.ref) out.toArray, toks := tk } :=
    I3.take (h' := sortedHeap h2 h'.objs.size (as.map Value.ref) out.toArray) (t' := tk) (fun b ob _ z => z) (I2.fpOk big hn0) ⟨by rw [List.length_map]; omega, out.toArray.toList, eF, rv, heF⟩
  have abv : ∀ b ∈ as, s2.heap.objs.size ≤ b := fun b hb => Nat.le_of_lt (hG.above b hb)
  have asne : ∀ b ∈ as, b ≠ h'.objs.size := fun b hb => Nat.ne_of_lt (hG.there hb)
  obtain ⟨H5, I5, g5, t5⟩ := L2.DX.takeT (P := fun b ws => ∃ z : Int × Int, pairAt h2 (.ref b) = z ∧ ws = [.int z.1, .int z.2]) I2 as _ I4 nd fun b hb => by
    obtain ⟨j, hj⟩ := List.mem_iff_getElem?.mp hb
    obtain ⟨z, t, u, _, hz2⟩ := prs j b hj
    refine ⟨abv b hb, ?_, [.int z.1, .int z.2], ⟨z, pairAt_of hz2, rfl⟩, fun H2 => ⟨by show 2 ≤ sizeLine; decide, [.int z.1 t, .int z.2 u], .cons ⟨_, rfl⟩ (.cons ⟨_, rfl⟩ .nil), ⟨_, kF _ _ (asne b hb) hz2, rfl, 0, rfl⟩⟩⟩
    rw [upd_ne (asne b hb)]
    exact I2.hok.fresh (abv b hb)
  have pm : ∀ f : Addr × Int × Int → Prop, (∀ v ∈ out, f (refAt v, pairAt h2 v)) → ∀ z ∈ out.map (fun v => (refAt v, pairAt h2 v)), f z := by
    intro f hf z hz2
    obtain ⟨v, hv', rfl⟩ := List.mem_map.mp hz2
    exact hf v hv'
  have m1 : (out.map (fun v => (refAt v, pairAt h2 v))).map (·.1) = out.map refAt := by rw [List.map_map]; rfl
  have m2 : (out.map (fun v => (refAt v, pairAt h2 v))).map (·.2) = out.map (pairAt h2) := by rw [List.map_map]; rfl
  have pA : (out.map refAt).Perm as := by
    have z := hst.perm.map refAt
    rw [List.map_map] at z
    have z2 : (as.map (refAt ∘ Value.ref)) = as := by
      have : (refAt ∘ Value.ref) = id := rfl
      rw [this, List.map_id]
    rw [z2] at z
    exact z
  refine ⟨.ref h'.objs.size, H5, I5, rfl, q H5 _ (out.map fun v => (refAt v, pairAt h2 v)) (fun b o z => g5 b o ?_) hn0 (pm _ fun v hv' => ?_) ?_ ?_ ?_ ?_ ?_ (pm _ fun v hv' => ?_)⟩
  · rw [upd_ne (ne_of_none z hn0)]
    exact z
  · obtain ⟨b, rfl, hb⟩ := refs v hv'
    exact I2.hok.fresh (abv b hb)
  · rw [m1]
    intro z
    exact asne _ (pA.mem_iff.mp z) rfl
  · rw [m1]
    exact pA.nodup_iff.mpr nd
  · rw [m2, ← hvals]
    exact hst.perm.map _
  · rw [m2]
    exact List.pairwise_map.mpr hso
  · rw [List.map_map]
    exact g5 _ _ upd_same
  · obtain ⟨b, rfl, hb⟩ := refs v hv'
    obtain ⟨ws, ⟨z, e1, e2⟩, e3⟩ := t5 b hb
    subst e2
    show H5 b = _
    rw [e3]
    show _ = some (HO.tup [.int (pairAt h2 (.ref b)).1, .int (pairAt h2 (.ref b)).2])
    rw [e1]
end
end My

/-! Counts of sums, in plain Lean: a dict of whole numbers as a list of pairs, throws as functions. -/
namespace My
open PySem PySem.Spec PyProof.Rows L2

/-! ### a dict of whole numbers -/
def lookI : List (Int × Int) → Int → Int
  | [], _ => 0
  | p :: r, k => if p.1 = k then p.2 else lookI r k
def putI (m : List (Int × Int)) (k v : Int) : List (Int × Int) :=
  if (m.any fun p => decide (p.1 = k)) = true then m.map (fun p => if p.1 = k then (p.1, v) else p) else m ++ [(k, v)]
def addI (m : List (Int × Int)) (k v : Int) : List (Int × Int) := putI m k (lookI m k + v)
theorem valV_entI (k : Int) : ∀ m : List (Int × Int), (valV (m.map entI) (Sum.inl k)).getD (.int 0) = .int (lookI m k)
  | [] => rfl
  | p :: r => by
    rw [List.map_cons, lookI]
    by_cases e : p.1 = k
    · rw [if_pos e, valV_pos (p := entI p) (show Sum.inl p.1 = Sum.inl k by rw [e])]
      rfl
    · rw [if_neg e, valV_neg (p := entI p) (show ¬ Sum.inl p.1 = Sum.inl k from fun z => e (Sum.inl.inj z))]
      exact valV_entI k r
theorem valV_entI_some {k : Int} : ∀ {m : List (Int × Int)}, k ∈ m.map (·.1) → valV (m.map entI) (Sum.inl k) = some (.int (lookI m k))
  | [], h => by simp at h
  | p :: r, h => by
    rw [List.map_cons, lookI]
    by_cases e : p.1 = k
    · rw [if_pos e, valV_pos (p := entI p) (show Sum.inl p.1 = Sum.inl k by rw [e])]
      rfl
    · rw [if_neg e, valV_neg (p := entI p) (show ¬ Sum.inl p.1 = Sum.inl k from fun z => e (Sum.inl.inj z))]
      rcases List.mem_cons.mp h with h | h
      · exact absurd h.symm e
      · exact valV_entI_some h
theorem any_entI (k : Int) (m : List (Int × Int)) : ((m.map entI).any fun kv => decide (kv.1 = (Sum.inl k : Key))) = m.any fun p => decide (p.1 = k) := by
  rw [List.any_map]
  congr 1
  funext p
  show decide ((Sum.inl p.1 : Key) = Sum.inl k) = decide (p.1 = k)
  exact decide_eq_decide.mpr ⟨fun z => Sum.inl.inj z, fun z => by rw [z]⟩
theorem putK_entI (m : List (Int × Int)) (k v : Int) : putK (m.map entI) (Sum.inl k) (.int v) = (putI m k v).map entI := by
  unfold putK putI
  rw [any_entI]
  split
  · rw [List.map_map, List.map_map]
    apply List.map_congr_left
    intro p _
    show (if (Sum.inl p.1 : Key) = Sum.inl k then ((Sum.inl p.1 : Key), V.int v) else entI p) = entI (if p.1 = k then (p.1, v) else p)
    by_cases e : p.1 = k
    · rw [if_pos e, if_pos (by rw [e])]
      rfl
    · rw [if_neg e, if_neg fun z => e (Sum.inl.inj z)]
  · rw [List.map_append]
    rfl
theorem look_map (k j v : Int) : ∀ m : List (Int × Int), j ≠ k → lookI (m.map fun p => if p.1 = k then (p.1, v) else p) j = lookI m j
  | [], _ => rfl
  | p :: r, h => by
    rw [List.map_cons, lookI, lookI, look_map k j v r h]
    by_cases e : p.1 = k
    · rw [if_pos e]
      have h1 : ¬ p.1 = j := fun z => h (z.symm.trans e)
      rw [if_neg h1, if_neg h1]
    · rw [if_neg e]
theorem look_map_same (k v : Int) : ∀ m : List (Int × Int), (m.any fun p => decide (p.1 = k)) = true → lookI (m.map fun p => if p.1 = k then (p.1, v) else p) k = v
  | [], h => by simp at h
  | p :: r, h => by
    rw [List.map_cons, lookI]
    by_cases e : p.1 = k
    · rw [if_pos e, if_pos e]
    · rw [if_neg e, if_neg e]
      rw [List.any_cons, decide_eq_false e, Bool.false_or] at h
      exact look_map_same k v r h
theorem look_snoc (k j v : Int) : ∀ m : List (Int × Int), (m.any fun p => decide (p.1 = k)) = false → lookI (m ++ [(k, v)]) j = if j = k then v else lookI m j
  | [], _ => by
    show (if k = j then v else 0) = _
    by_cases e : j = k
    · rw [if_pos e, if_pos e.symm]
    · rw [if_neg e, if_neg fun z => e z.symm]
      rfl
  | p :: r, h => by
    rw [List.any_cons, Bool.or_eq_false_iff] at h
    have h1 : ¬ p.1 = k := of_decide_eq_false h.1
    rw [List.cons_append, lookI, lookI, look_snoc k j v r h.2]
    by_cases e : j = k
    · rw [if_pos e, if_neg (by rw [e]; exact h1), if_pos e]
    · rw [if_neg e, if_neg e]
theorem look_put (m : List (Int × Int)) (k j v : Int) : lookI (putI m k v) j = if j = k then v else lookI m j := by
  unfold putI
  split
  · rename_i h
    by_cases e : j = k
    · rw [if_pos e, e]
      exact look_map_same k v m h
    · rw [if_neg e]
      exact look_map k j v m e
  · rename_i h
    exact look_snoc k j v m (Bool.eq_false_iff.mpr h)
theorem look_add (m : List (Int × Int)) (k j v : Int) : lookI (addI m k v) j = lookI m j + if j = k then v else 0 := by
  unfold addI
  rw [look_put]
  by_cases e : j = k
  · rw [if_pos e, if_pos e, e]
  · rw [if_neg e, if_neg e]
    omega
theorem keys_put (m : List (Int × Int)) (k v : Int) : (putI m k v).map (·.1) = if (m.any fun p => decide (p.1 = k)) = true then m.map (·.1) else m.map (·.1) ++ [k] := by
  unfold putI
  split
  · rw [List.map_map]
    apply List.map_congr_left
    intro p _
    show (if p.1 = k then (p.1, v) else p).1 = p.1
    split <;> rfl
  · rw [List.map_append]
    rfl
theorem any_key (m : List (Int × Int)) (k : Int) : (m.any fun p => decide (p.1 = k)) = true ↔ k ∈ m.map (·.1) := by
  rw [List.any_eq_true]
  constructor
  · rintro ⟨p, hp, e⟩
    exact List.mem_map.mpr ⟨p, hp, of_decide_eq_true e⟩
  · intro h
    obtain ⟨p, hp, e⟩ := List.mem_map.mp h
    exact ⟨p, hp, decide_eq_true e⟩
theorem nodup_put {m : List (Int × Int)} (k v : Int) (h : (m.map (·.1)).Nodup) : ((putI m k v).map (·.1)).Nodup := by
  rw [keys_put]
  split
  · exact h
  · rename_i c
    have hk : k ∉ m.map (·.1) := fun z => c ((any_key m k).mpr z)
    rw [List.nodup_append]
    refine ⟨h, List.nodup_cons.mpr ⟨by simp, List.nodup_nil⟩, fun a ha b hb => ?_⟩
    rw [List.mem_singleton.mp hb]
    exact fun z => hk (z ▸ ha)
theorem len_put (m : List (Int × Int)) (k v : Int) : (putI m k v).length ≤ m.length + 1 := by
  have h := congrArg List.length (keys_put m k v)
  rw [List.length_map] at h
  rw [h]
  split
  · rw [List.length_map]
    omega
  · rw [List.length_append, List.length_map]
    exact Nat.le_refl _
theorem pos_put {m : List (Int × Int)} {k v : Int} (hv : 0 < v) (h : ∀ p ∈ m, 0 < p.2) : ∀ p ∈ putI m k v, 0 < p.2 := by
  intro p hp
  unfold putI at hp
  split at hp
  · obtain ⟨q, hq, e⟩ := List.mem_map.mp hp
    split at e
    · rw [← e]
      exact hv
    · rw [← e]
      exact h q hq
  · rcases List.mem_append.mp hp with hp | hp
    · exact h p hp
    · rw [List.mem_singleton.mp hp]
      exact hv
theorem look_nonneg : ∀ {m : List (Int × Int)} (k : Int), (∀ p ∈ m, 0 < p.2) → 0 ≤ lookI m k
  | [], _, _ => Int.le_refl 0
  | p :: r, k, h => by
    rw [lookI]
    split
    · exact Int.le_of_lt (h p List.mem_cons_self)
    · exact look_nonneg k fun q hq => h q (List.mem_cons_of_mem _ hq)
theorem pos_add {m : List (Int × Int)} {k v : Int} (hv : 0 < v) (h : ∀ p ∈ m, 0 < p.2) : ∀ p ∈ addI m k v, 0 < p.2 :=
  pos_put (by have := look_nonneg k h; omega) h
theorem look_mem {m : List (Int × Int)} (hn : (m.map (·.1)).Nodup) : ∀ {p : Int × Int}, p ∈ m → lookI m p.1 = p.2 := by
  induction m with
  | nil => intro p h; cases h
  | cons q r ih =>
    intro p h
    rw [List.map_cons, List.nodup_cons] at hn
    rw [lookI]
    rcases List.mem_cons.mp h with e | h
    · rw [e, if_pos rfl]
    · have nq : ¬ q.1 = p.1 := fun z => hn.1 (by rw [z]; exact List.mem_map.mpr ⟨p, h, rfl⟩)
      rw [if_neg nq]
      exact ih hn.2 h
theorem look_ne_mem : ∀ {m : List (Int × Int)} {k : Int}, lookI m k ≠ 0 → (k, lookI m k) ∈ m
  | [], k, h => absurd rfl h
  | p :: r, k, h => by
    rw [lookI] at h ⊢
    by_cases e : p.1 = k
    · rw [if_pos e]
      rw [← e]
      exact List.mem_cons_self
    · rw [if_neg e] at h ⊢
      exact List.mem_cons_of_mem _ (look_ne_mem h)

/-! ### throws, as functions of sums -/
/-- a die more: by how many throws each sum comes -/
def conv (g : Int → Int) (ds : List Int) : Int → Int := fun s => (ds.map fun f => g (s - f)).sum
def cnt0 : Int → Int := fun s => if s = 0 then 1 else 0
def cntF (dss : List (List Int)) : Int → Int := dss.foldl conv cnt0
/-- m tells g: each sum once, none that doesn't come -/
structure Tells (m : List (Int × Int)) (g : Int → Int) : Prop where
  nd : (m.map (·.1)).Nodup
  look : ∀ s, lookI m s = g s
  pos : ∀ p ∈ m, 0 < p.2
def inner (t n : Int) (m : List (Int × Int)) (ds : List Int) : List (Int × Int) := ds.foldl (fun m f => addI m (t + f) n) m
def withW (w : List (Int × Int)) (ds : List Int) : List (Int × Int) := w.foldl (fun m p => inner p.1 p.2 m ds) []
theorem inner_snoc (t n : Int) (m : List (Int × Int)) (ds : List Int) (f : Int) : inner t n m (ds ++ [f]) = addI (inner t n m ds) (t + f) n := by
  unfold inner
  rw [List.foldl_append]
  rfl
theorem withW_snoc (w : List (Int × Int)) (p : Int × Int) (ds : List Int) : withW (w ++ [p]) ds = inner p.1 p.2 (withW w ds) ds := by
  unfold withW
  rw [List.foldl_append]
  rfl
theorem inner_look (t n : Int) (s : Int) : ∀ (ds : List Int) (m : List (Int × Int)), lookI (inner t n m ds) s = lookI m s + (ds.map fun f => if s = t + f then n else 0).sum
  | [], m => by
    show lookI m s = lookI m s + 0
    omega
  | f :: r, m => by
    show lookI (inner t n (addI m (t + f) n) r) s = _
    rw [inner_look t n s r, look_add, List.map_cons, List.sum_cons]
    omega
theorem inner_nd (t n : Int) : ∀ (ds : List Int) (m : List (Int × Int)), (m.map (·.1)).Nodup → ((inner t n m ds).map (·.1)).Nodup
  | [], m, h => h
  | f :: r, m, h => inner_nd t n r _ (nodup_put _ _ h)
theorem inner_pos {t n : Int} (hn : 0 < n) : ∀ (ds : List Int) (m : List (Int × Int)), (∀ p ∈ m, 0 < p.2) → ∀ p ∈ inner t n m ds, 0 < p.2
  | [], m, h => h
  | f :: r, m, h => inner_pos hn r _ (pos_add hn h)
theorem inner_len (t n : Int) : ∀ (ds : List Int) (m : List (Int × Int)), (inner t n m ds).length ≤ m.length + ds.length
  | [], m => Nat.le_refl _
  | f :: r, m => by
    show (inner t n (addI m (t + f) n) r).length ≤ _
    have h1 := inner_len t n r (addI m (t + f) n)
    have h2 := len_put m (t + f) (lookI m (t + f) + n)
    rw [List.length_cons]
    unfold addI at h1
    unfold addI
    omega
theorem fold_look (ds : List Int) (s : Int) : ∀ (w m : List (Int × Int)), lookI (w.foldl (fun m p => inner p.1 p.2 m ds) m) s = lookI m s + (w.map fun p => (ds.map fun f => if s = p.1 + f then p.2 else 0).sum).sum
  | [], m => by
    show lookI m s = lookI m s + 0
    omega
  | p :: r, m => by
    show lookI (r.foldl (fun m p => inner p.1 p.2 m ds) (inner p.1 p.2 m ds)) s = _
    rw [fold_look ds s r, inner_look, List.map_cons, List.sum_cons]
    omega
theorem fold_nd (ds : List Int) : ∀ (w m : List (Int × Int)), (m.map (·.1)).Nodup → ((w.foldl (fun m p => inner p.1 p.2 m ds) m).map (·.1)).Nodup
  | [], m, h => h
  | p :: r, m, h => fold_nd ds r _ (inner_nd p.1 p.2 ds m h)
theorem fold_pos (ds : List Int) : ∀ (w m : List (Int × Int)), (∀ p ∈ w, 0 < p.2) → (∀ p ∈ m, 0 < p.2) → ∀ p ∈ w.foldl (fun m p => inner p.1 p.2 m ds) m, 0 < p.2
  | [], m, _, h => h
  | p :: r, m, hw, h => fold_pos ds r _ (fun q hq => hw q (List.mem_cons_of_mem _ hq)) (inner_pos (hw p List.mem_cons_self) ds m h)
theorem fold_len (ds : List Int) : ∀ (w m : List (Int × Int)), (w.foldl (fun m p => inner p.1 p.2 m ds) m).length ≤ m.length + w.length * ds.length
  | [], m => by simp
  | p :: r, m => by
    have h1 := fold_len ds r (inner p.1 p.2 m ds)
    have h2 := inner_len p.1 p.2 ds m
    show (r.foldl (fun m p => inner p.1 p.2 m ds) (inner p.1 p.2 m ds)).length ≤ _
    rw [List.length_cons, Nat.succ_mul]
    omega
theorem withW_len (w : List (Int × Int)) (ds : List Int) : (withW w ds).length ≤ w.length * ds.length := by
  have h := fold_len ds w []
  rw [List.length_nil, Nat.zero_add] at h
  exact h
/-- sums in two orders -/
theorem sum_add {α : Type} (f g : α → Int) : ∀ l : List α, (l.map fun x => f x + g x).sum = (l.map f).sum + (l.map g).sum
  | [] => rfl
  | x :: r => by
    rw [List.map_cons, List.map_cons, List.map_cons, List.sum_cons, List.sum_cons, List.sum_cons, sum_add f g r]
    omega
theorem sum_zero {α : Type} : ∀ l : List α, (l.map fun _ => (0 : Int)).sum = 0
  | [] => rfl
  | _ :: r => by rw [List.map_cons, List.sum_cons, sum_zero r]; rfl
theorem sum_swap {α β : Type} (f : α → β → Int) (bs : List β) : ∀ l : List α, (l.map fun x => (bs.map fun y => f x y).sum).sum = (bs.map fun y => (l.map fun x => f x y).sum).sum
  | [] => by
    show 0 = (bs.map fun _ => (0 : Int)).sum
    rw [sum_zero]
  | x :: r => by
    rw [List.map_cons, List.sum_cons, sum_swap f bs r]
    have e : (bs.map fun y => ((x :: r).map fun x => f x y).sum) = bs.map fun y => f x y + (r.map fun x => f x y).sum := by
      apply List.map_congr_left
      intro y _
      rw [List.map_cons, List.sum_cons]
    rw [e, sum_add]
theorem sum_look : ∀ {m : List (Int × Int)} (k : Int), (m.map (·.1)).Nodup → (m.map fun p => if p.1 = k then p.2 else 0).sum = lookI m k
  | [], _, _ => rfl
  | p :: r, k, h => by
    rw [List.map_cons, List.nodup_cons] at h
    rw [List.map_cons, List.sum_cons, sum_look k h.2, lookI]
    by_cases e : p.1 = k
    · rw [if_pos e, if_pos e]
      have z : lookI r k = 0 := by
        cases Decidable.em (lookI r k = 0) with
        | inl z => exact z
        | inr z => exact absurd (List.mem_map.mpr ⟨_, look_ne_mem z, rfl⟩) (by rw [← e] at z ⊢; exact h.1)
      omega
    · rw [if_neg e, if_neg e]
      omega
theorem tells_with {w : List (Int × Int)} {g : Int → Int} (T : Tells w g) (ds : List Int) : Tells (withW w ds) (conv g ds) where
  nd := fold_nd ds w [] List.nodup_nil
  look := fun s => by
    unfold withW
    rw [fold_look, sum_swap (fun (p : Int × Int) f => if s = p.1 + f then p.2 else 0) ds w]
    show 0 + _ = (ds.map fun f => g (s - f)).sum
    have e : (ds.map fun y => (w.map fun x => if s = x.1 + y then x.2 else 0).sum) = ds.map fun f => g (s - f) := by
      apply List.map_congr_left
      intro f _
      rw [← T.look, ← sum_look (s - f) T.nd]
      congr 1
      apply List.map_congr_left
      intro p _
      by_cases c : s = p.1 + f
      · rw [if_pos c, if_pos (by omega)]
      · rw [if_neg c, if_neg (by omega)]
    rw [e]
    omega
  pos := fold_pos ds w [] T.pos (fun p h => by cases h)
theorem tells_0 : Tells [(0, 1)] cnt0 where
  nd := by decide
  look := fun s => by
    show (if (0 : Int) = s then 1 else 0) = if s = 0 then 1 else 0
    by_cases e : s = 0
    · rw [if_pos e, if_pos e.symm]
    · rw [if_neg e, if_neg fun z => e z.symm]
  pos := by decide
def waysL (dss : List (List Int)) : List (Int × Int) := dss.foldl withW [(0, 1)]
theorem waysL_snoc (dss : List (List Int)) (ds : List Int) : waysL (dss ++ [ds]) = withW (waysL dss) ds := by
  unfold waysL
  rw [List.foldl_append]
  rfl
theorem tells_fold : ∀ (dss : List (List Int)) {w : List (Int × Int)} {g : Int → Int}, Tells w g → Tells (dss.foldl withW w) (dss.foldl conv g)
  | [], _, _, T => T
  | ds :: r, _, _, T => tells_fold r (tells_with T ds)
theorem tells_ways (dss : List (List Int)) : Tells (waysL dss) (cntF dss) := tells_fold dss tells_0
/-- a list of counts: rising sums, each with its number -/
structure IsCounts (g : Int → Int) (out : List (Int × Int)) : Prop where
  rise : out.Pairwise fun a b => a.1 < b.1
  mem : ∀ s n, (s, n) ∈ out ↔ n = g s ∧ n ≠ 0
theorem counts_of_tells {m out : List (Int × Int)} {g : Int → Int} (T : Tells m g) (hp : out.Perm m) (hr : out.Pairwise fun a b => a.1 < b.1) : IsCounts g out where
  rise := hr
  mem := fun s n => by
    rw [hp.mem_iff]
    constructor
    · intro h
      have e := look_mem T.nd h
      rw [T.look] at e
      have p := T.pos _ h
      exact ⟨e.symm, by show n ≠ 0; have p' : 0 < n := p; omega⟩
    · rintro ⟨e, h⟩
      rw [← T.look] at e
      rw [e] at h ⊢
      exact look_ne_mem h
theorem rise_of_lex {out : List (Int × Int)} (hn : (out.map (·.1)).Nodup) (h : out.Pairwise fun a b => SrtO.lexB b a = false) : out.Pairwise fun a b => a.1 < b.1 := by
  have hn2 : out.Pairwise fun a b => a.1 ≠ b.1 := List.pairwise_map.mp hn
  refine (hn2.and h).imp fun {a b} c => ?_
  have d := SrtO.lexB_no.mp c.2
  have := c.1
  omega
theorem counts_uniq : ∀ {l m : List (Int × Int)} {g : Int → Int}, IsCounts g l → IsCounts g m → l = m := by
  have key : ∀ (l m : List (Int × Int)), l.Pairwise (fun a b => a.1 < b.1) → m.Pairwise (fun a b => a.1 < b.1) → (∀ p, p ∈ l ↔ p ∈ m) → l = m := by
    intro l
    induction l with
    | nil =>
      intro m _ _ h
      cases m with
      | nil => rfl
      | cons b r => exact absurd ((h b).mpr List.mem_cons_self) (by simp)
    | cons a l ih =>
      intro m hl hm h
      cases m with
      | nil => exact absurd ((h a).mp List.mem_cons_self) (by simp)
      | cons b r =>
        obtain ⟨hl1, hl2⟩ := List.pairwise_cons.mp hl
        obtain ⟨hm1, hm2⟩ := List.pairwise_cons.mp hm
        have e : a = b := by
          rcases List.mem_cons.mp ((h a).mp List.mem_cons_self) with e | ha
          · exact e
          · rcases List.mem_cons.mp ((h b).mpr List.mem_cons_self) with e | hb
            · exact e.symm
            · have h1 := hl1 b hb
              have h2 := hm1 a ha
              omega
        subst e
        congr 1
        refine ih r hl2 hm2 fun p => ?_
        constructor
        · intro hp
          rcases List.mem_cons.mp ((h p).mp (List.mem_cons_of_mem _ hp)) with e | q
          · have := hl1 p hp
            rw [e] at this
            omega
          · exact q
        · intro hp
          rcases List.mem_cons.mp ((h p).mpr (List.mem_cons_of_mem _ hp)) with e | q
          · have := hm1 p hp
            rw [e] at this
            omega
          · exact q
  intro l m g hl hm
  refine key l m hl.rise hm.rise fun p => ?_
  obtain ⟨s, n⟩ := p
  rw [hl.mem, hm.mem]

/-! ### the order of dice and of faces is nothing -/
theorem sum_perm : ∀ {l m : List Int}, l.Perm m → l.sum = m.sum := by
  intro l m h
  induction h with
  | nil => rfl
  | cons x _ ih => rw [List.sum_cons, List.sum_cons, ih]
  | swap x y l => rw [List.sum_cons, List.sum_cons, List.sum_cons, List.sum_cons]; omega
  | trans _ _ h1 h2 => rw [h1, h2]
theorem conv_perm (g : Int → Int) {a b : List Int} (h : a.Perm b) : conv g a = conv g b := by
  funext s
  exact sum_perm (h.map _)
theorem conv_comm (g : Int → Int) (a b : List Int) : conv (conv g a) b = conv (conv g b) a := by
  funext s
  show (b.map fun f => (a.map fun e => g (s - f - e)).sum).sum = (a.map fun e => (b.map fun f => g (s - e - f)).sum).sum
  rw [sum_swap (fun f e => g (s - f - e)) a b]
  congr 1
  apply List.map_congr_left
  intro e _
  congr 1
  apply List.map_congr_left
  intro f _
  congr 1
  omega
theorem fold_conv_perm {l m : List (List Int)} (h : l.Perm m) : ∀ g, l.foldl conv g = m.foldl conv g := by
  induction h with
  | nil => intro g; rfl
  | cons x _ ih => intro g; exact ih (conv g x)
  | swap x y l =>
    intro g
    show l.foldl conv (conv (conv g y) x) = l.foldl conv (conv (conv g x) y)
    rw [conv_comm]
  | trans _ _ h1 h2 => intro g; rw [h1, h2]
theorem cntF_perm {l m : List (List Int)} (h : l.Perm m) : cntF l = cntF m := fold_conv_perm h cnt0
theorem cntF_head {a b : List Int} (h : a.Perm b) (r : List (List Int)) : cntF (a :: r) = cntF (b :: r) := by
  show r.foldl conv (conv cnt0 a) = r.foldl conv (conv cnt0 b)
  rw [conv_perm cnt0 h]
end My

/-! Walks over a locked dict; lists of lists; a comprehension over a range. -/
namespace My
open PySem PySem.Spec PyProof.Rows L2
section
variable {g : TG} {tb : TS} {D : Ends} {σ : L2.St} {H : Hp} {d : Addr} {o : Obj} {kvs : List (Key × V)}
theorem for_items (Pv : Nat → L2.St → Hp → Prop) (h0 : Pv 0 σ H) (hl : ∀ i σ H, Pv i σ H → H d = some (.frz o (.dK kvs)))
    (hs : ∀ i k v σ H T, kvs[i]? = some (k, v) → Pv i σ H → H T = none → g (.ref T) σ (upd H T (.tup [kV k, v])) fun σ2 H2 => tb { D with nx := Pv (i + 1), ct := Pv (i + 1), bk := D.nx } σ2 H2)
    (hd : ∀ σ H, Pv kvs.length σ H → D.nx σ H) :
    ∃ W : Nat → Nat → L2.St → Hp → Prop, (∃ m, W 0 m σ H) ∧ ∀ i m σ H, W i m σ H →
      ((Iti d o kvs).stop i H ∧ D.nx σ H) ∨ ((Iti d o kvs).go i H ∧ ∃ N : L2.St → Hp → Prop, (∀ σ' H', N σ' H' → ∃ m', m' < m ∧ W (i + 1) m' σ' H') ∧ ∀ x H', (Iti d o kvs).yld i H x H' → g x σ H' fun σ2 H2 => tb { D with nx := N, ct := N, bk := D.nx } σ2 H2) := by
  refine ⟨fun i m σ H => i + m = kvs.length ∧ Pv i σ H, ⟨kvs.length, by omega, h0⟩, ?_⟩
  rintro i m σ H ⟨em, p⟩
  have q := hl i σ H p
  by_cases hi : i < kvs.length
  · refine .inr ⟨⟨q, hi⟩, Pv (i + 1), fun σ' H' p' => ⟨m - 1, by omega, by omega, p'⟩, fun x H' hy => ?_⟩
    obtain ⟨T, k, v, e1, rfl, nT, rfl⟩ := hy
    exact hs i k v σ H T e1 p nT
  · have ei : i = kvs.length := by omega
    subst ei
    exact .inl ⟨⟨q, Nat.le_refl _⟩, hd σ H p⟩
theorem for_keys (Pv : Nat → L2.St → Hp → Prop) (h0 : Pv 0 σ H) (hl : ∀ i σ H, Pv i σ H → H d = some (.frz o (.dK kvs)))
    (hs : ∀ i k v σ H, kvs[i]? = some (k, v) → Pv i σ H → g (kV k) σ H fun σ2 H2 => tb { D with nx := Pv (i + 1), ct := Pv (i + 1), bk := D.nx } σ2 H2)
    (hd : ∀ σ H, Pv kvs.length σ H → D.nx σ H) :
    ∃ W : Nat → Nat → L2.St → Hp → Prop, (∃ m, W 0 m σ H) ∧ ∀ i m σ H, W i m σ H →
      ((Itk d o kvs).stop i H ∧ D.nx σ H) ∨ ((Itk d o kvs).go i H ∧ ∃ N : L2.St → Hp → Prop, (∀ σ' H', N σ' H' → ∃ m', m' < m ∧ W (i + 1) m' σ' H') ∧ ∀ x H', (Itk d o kvs).yld i H x H' → g x σ H' fun σ2 H2 => tb { D with nx := N, ct := N, bk := D.nx } σ2 H2) := by
  refine ⟨fun i m σ H => i + m = kvs.length ∧ Pv i σ H, ⟨kvs.length, by omega, h0⟩, ?_⟩
  rintro i m σ H ⟨em, p⟩
  have q := hl i σ H p
  by_cases hi : i < kvs.length
  · refine .inr ⟨⟨q, hi⟩, Pv (i + 1), fun σ' H' p' => ⟨m - 1, by omega, by omega, p'⟩, fun x H' hy => ?_⟩
    obtain ⟨rfl, k, v, e1, rfl⟩ := hy
    exact hs i k v σ _ e1 p
  · have ei : i = kvs.length := by omega
    subst ei
    exact .inl ⟨⟨q, Nat.le_refl _⟩, hd σ H p⟩
end
/-- under a lock all but the locked one stands; unlocked, all -/
theorem same_unlock {H H' : Hp} {d : Addr} {od : Obj} {u : HO} (hd : H d = some u) (e : Same (upd H d (.frz od u)) H') : Same H (upd H' d u) := fun b o q => by
  by_cases hb : b = d
  · subst hb
    rw [hd] at q
    cases q
    exact upd_same
  · rw [upd_ne hb]
    refine e b o ?_
    rw [upd_ne hb]
    exact q
/-- a list of lists of whole numbers -/
def DiceAt (H : Hp) (a : Addr) (ps : List Addr) (dss : List (List Int)) : Prop :=
  H a = some (.lst (ps.map V.ref)) ∧ Paired (fun p ds => H p = some (.lst (ds.map V.int))) ps dss
theorem paired_at {α β : Type} {F : α → β → Prop} : ∀ {xs : List α} {ys : List β}, Paired F xs ys → ∀ {i : Nat} {x : α}, xs[i]? = some x → ∃ y, ys[i]? = some y ∧ F x y
  | _, _, .nil, i, x, h => by simp at h
  | _, _, .cons r t, 0, x, h => by
    have e := Option.some.inj h
    subst e
    exact ⟨_, rfl, r⟩
  | _, _, .cons r t, i + 1, x, h => paired_at t (i := i) h
theorem paired_mono {α β : Type} {F G : α → β → Prop} {xs : List α} {ys : List β} (h : Paired F xs ys) (k : ∀ a b, F a b → G a b) : Paired G xs ys := by
  induction h with
  | nil => exact .nil
  | cons r t ih => exact .cons (k _ _ r) ih
theorem DiceAt.mono {H H' : Hp} {a : Addr} {ps : List Addr} {dss : List (List Int)} (e : Same H H') (h : DiceAt H a ps dss) : DiceAt H' a ps dss :=
  ⟨e _ _ h.1, paired_mono h.2 fun p ds q => e _ _ q⟩
theorem paired_len {α β : Type} {F : α → β → Prop} {xs : List α} {ys : List β} (h : Paired F xs ys) : xs.length = ys.length := by
  induction h with
  | nil => rfl
  | cons r t ih => rw [List.length_cons, List.length_cons, ih]
theorem paired_snoc {α β : Type} {F : α → β → Prop} {xs : List α} {ys : List β} {x : α} {y : β} (h : Paired F xs ys) (r : F x y) : Paired F (xs ++ [x]) (ys ++ [y]) := by
  induction h with
  | nil => exact .cons r .nil
  | cons q t ih => exact .cons q ih
/-- rows: tuples of two whole numbers -/
def RowsAt (H : Hp) (a : Addr) (ps : List (Addr × Int × Int)) : Prop :=
  H a = some (.lst (ps.map fun z => V.ref z.1)) ∧ ∀ z ∈ ps, H z.1 = some (.tup [.int z.2.1, .int z.2.2])
theorem RowsAt.mono {H H' : Hp} {a : Addr} {ps : List (Addr × Int × Int)} (e : Same H H') (h : RowsAt H a ps) : RowsAt H' a ps :=
  ⟨e _ _ h.1, fun z hz => e _ _ (h.2 z hz)⟩
theorem take_snoc {α : Type} {l : List α} {i : Nat} {x : α} (h : l[i]? = some x) : l.take (i + 1) = l.take i ++ [x] := by
  rw [List.take_add_one, h]
  rfl
end My
namespace My
open PySem PySem.Spec PyProof.Rows L2
/-- a comprehension over a list that makes tuples of two whole numbers -/
theorem lc_pairs {K : PySem.W.Frag} {a : Addr} {xs : List V} {g : TG} {tt : TT} {te : TE} {vs : List Nat} {σ : L2.St} {H1 : Hp} {D : Addr} {Qd : Hp → Prop} (f : V → Int × Int)
    (nD : H1 D = none) (hS : SqL K H1 a xs) (len : xs.length < 1000000)
    (hs : ∀ x H' (R : V → Hp → Prop), x ∈ xs → Same H1 H' → (∀ H4 t, Same H' H4 → H' t = none → H4 t = some (.tup [.int (f x).1, .int (f x).2]) → R (.ref t) H4) →
      ∀ N : Hp → Prop, g x (wipe σ vs) H' fun σ2 H2 => wipe σ2 vs = wipe σ vs ∧ tt σ2 H2 fun b H3 => if b = true then te σ2 H3 R else N H3)
    (hd : ∀ H' (rows : List (Addr × Int × Int)), Same H1 H' → RowsAt H' D rows → (∀ z ∈ rows, H1 z.1 = none) → D ∉ rows.map (·.1) → rows.map (·.2) = xs.map f → Qd H') :
    ∃ W : Nat → Nat → Hp → Prop, (∃ m, W 0 m (upd H1 D (.lst []))) ∧ ∀ i m H, W i m H →
      ((Itl K a).stop i H ∧ Qd H) ∨ ((Itl K a).go i H ∧ ∃ Nx : Hp → Prop, (∀ H', Nx H' → ∃ m', m' < m ∧ W (i + 1) m' H') ∧ ∀ x H', (Itl K a).yld i H x H' → g x (wipe σ vs) H' fun σ2 H2 => wipe σ2 vs = wipe σ vs ∧ tt σ2 H2 fun b H3 =>
        if b = true then te σ2 H3 fun y H4 => ∃ acc, H4 D = some (.lst acc) ∧ acc.length < sizeLine ∧ Nx (upd H4 D (.lst (acc ++ [y]))) else Nx H3) := by
  refine lc_list (K := K) (a := a) (xs := xs) (fun i H => Same H1 H ∧ ∃ rows : List (Addr × Int × Int), RowsAt H D rows ∧ (∀ z ∈ rows, H1 z.1 = none) ∧ D ∉ rows.map (·.1) ∧ rows.map (·.2) = (xs.take i).map f)
    ⟨same_new nD, [], ⟨upd_same, fun z h => by cases h⟩, fun z h => (by cases h), (by simp), rfl⟩ (fun i H _ p => p.1.seq hS) ?_ ?_
  · rintro i x H hi ⟨p1, rows, ⟨r1, r2⟩, r3, r4, r5⟩
    refine hs x H _ (List.mem_of_getElem? hi) p1 (fun H4 t e4 nt ht => ?_) _
    have nDt : D ≠ t := ne_of_none r1 nt
    have l5 : rows.length = i ∨ rows.length ≤ xs.length := by
      have z := congrArg List.length r5
      rw [List.length_map, List.length_map, List.length_take] at z
      omega
    have l6 : rows.length ≤ xs.length := by
      have z := congrArg List.length r5
      rw [List.length_map, List.length_map, List.length_take] at z
      omega
    refine ⟨_, e4 _ _ r1, sz_lt (by rw [List.length_map]; omega), fun b o e => ?_, rows ++ [(t, f x)], ⟨?_, fun z hz => ?_⟩, fun z hz => ?_, ?_, ?_⟩
    · rw [upd_ne (ne_of_none e nD)]
      exact e4 _ _ (p1 _ _ e)
    · rw [upd_same, List.map_append]
      rfl
    · rcases List.mem_append.mp hz with hz | hz
      · rw [upd_ne fun c => r4 (List.mem_map.mpr ⟨z, hz, c⟩)]
        exact e4 _ _ (r2 z hz)
      · rw [List.mem_singleton.mp hz, upd_ne nDt.symm]
        exact ht
    · rcases List.mem_append.mp hz with hz | hz
      · exact r3 z hz
      · rw [List.mem_singleton.mp hz]
        exact Same.free p1 nt
    · rw [List.map_append]
      intro c
      rcases List.mem_append.mp c with c | c
      · exact r4 c
      · exact nDt (List.mem_singleton.mp c)
    · rw [take_snoc hi, List.map_append, List.map_append, r5]
      rfl
  · rintro H ⟨p1, rows, r1, r3, r4, r5⟩
    rw [List.take_length] at r5
    exact hd H rows p1 r1 r3 r4 r5
end My
namespace My
open PySem PySem.Spec PyProof.Rows L2
theorem paired_in {α β : Type} {F : α → β → Prop} {xs : List α} {ys : List β} (h : Paired F xs ys) {G : α → β → Prop} (k : ∀ a b, a ∈ xs → F a b → G a b) : Paired G xs ys := by
  induction h with
  | nil => exact .nil
  | cons r t ih => exact .cons (k _ _ List.mem_cons_self r) (ih fun a b ha => k a b (List.mem_cons_of_mem _ ha))
/-- what a comprehension that makes new lists of whole numbers has made so far -/
structure Made (H1 H : Hp) (D : Addr) (Gd : Nat → List Int → Prop) (n : Nat) : Prop where
  same : Same H1 H
  made : ∃ qs cs, DiceAt H D qs cs ∧ qs.length = n ∧ (∀ q ∈ qs, H1 q = none) ∧ D ∉ qs ∧ qs.Nodup ∧ ∀ i c, cs[i]? = some c → Gd i c
theorem Made.zero {H1 : Hp} {D : Addr} {Gd : Nat → List Int → Prop} (nD : H1 D = none) : Made H1 (upd H1 D (.lst [])) D Gd 0 where
  same := same_new nD
  made := ⟨[], [], ⟨upd_same, .nil⟩, rfl, fun q h => (by cases h), (by simp), List.nodup_nil, fun i c h => by simp at h⟩
theorem Made.more {H1 H H4 : Hp} {D q : Addr} {Gd : Nat → List Int → Prop} {n : Nat} {c : List Int} (nD : H1 D = none) (hn : n < 1000000) (M : Made H1 H D Gd n) (e : Same H H4) (nq : H q = none) (hq : H4 q = some (.lst (c.map V.int))) (g : Gd n c) :
    ∃ acc, H4 D = some (.lst acc) ∧ acc.length < sizeLine ∧ Made H1 (upd H4 D (.lst (acc ++ [.ref q]))) D Gd (n + 1) := by
  obtain ⟨qs, cs, hD, ln, fr, nin, nd, gd⟩ := M.made
  have hDD := e _ _ hD.1
  have nDq : D ≠ q := ne_of_none hD.1 nq
  have lc : qs.length = cs.length := paired_len hD.2
  have nqs : q ∉ qs := fun z => by
    obtain ⟨c', _, r⟩ : ∃ c' ∈ cs, H q = some (.lst (c'.map V.int)) := by
      obtain ⟨i, hi⟩ := List.mem_iff_getElem?.mp z
      obtain ⟨y, hy, r⟩ := paired_at hD.2 hi
      exact ⟨y, List.mem_of_getElem? hy, r⟩
    rw [nq] at r
    cases r
  refine ⟨_, hDD, sz_lt (by rw [List.length_map]; omega), fun b o z => ?_, qs ++ [q], cs ++ [c], ⟨?_, ?_⟩, ?_, fun p hp => ?_, ?_, ?_, fun i d hi => ?_⟩
  · rw [upd_ne (ne_of_none z nD)]
    exact e _ _ (M.same _ _ z)
  · rw [upd_same, List.map_append]
    rfl
  · refine paired_snoc ?_ ?_
    · have nin2 : ∀ p ∈ qs, p ≠ D := fun p hp z => nin (z ▸ hp)
      exact paired_in hD.2 fun p ds hp r => by
        rw [upd_ne (nin2 p hp)]
        exact e _ _ r
    · rw [upd_ne nDq.symm]
      exact hq
  · rw [List.length_append, ln]
    rfl
  · rcases List.mem_append.mp hp with hp | hp
    · exact fr p hp
    · rw [List.mem_singleton.mp hp]
      exact Same.free M.same nq
  · intro z
    rcases List.mem_append.mp z with z | z
    · exact nin z
    · exact nDq (List.mem_singleton.mp z)
  · rw [List.nodup_append]
    refine ⟨nd, List.nodup_cons.mpr ⟨by simp, List.nodup_nil⟩, fun a ha b hb => ?_⟩
    rw [List.mem_singleton.mp hb]
    exact fun z => nqs (z ▸ ha)
  · by_cases hlt : i < cs.length
    · rw [List.getElem?_append_left hlt] at hi
      exact gd i d hi
    · rw [List.getElem?_append_right (by omega)] at hi
      have hi0 : i - cs.length = 0 := by
        cases h0 : i - cs.length with
        | zero => rfl
        | succ k => rw [h0] at hi; simp at hi
      rw [hi0] at hi
      have ed : d = c := (Option.some.inj hi).symm
      have ei : i = n := by omega
      rw [ed, ei]
      exact g
/-- over a range -/
theorem lr_lists {g : TG} {tt : TT} {te : TE} {vs : List Nat} {σ : L2.St} {H1 : Hp} {D : Addr} {Qd : Hp → Prop} {lo : Int} {n : Nat} (Gd : Nat → List Int → Prop) (nD : H1 D = none) (len : n < 1000000)
    (hs : ∀ i H' (R : V → Hp → Prop), i < n → Same H1 H' → (∀ H4 q c, Same H' H4 → H' q = none → H4 q = some (.lst (c.map V.int)) → Gd i c → R (.ref q) H4) →
      ∀ N : Hp → Prop, g (.int (lo + i)) (wipe σ vs) H' fun σ2 H2 => wipe σ2 vs = wipe σ vs ∧ tt σ2 H2 fun b H3 => if b = true then te σ2 H3 R else N H3)
    (hd : ∀ H', Made H1 H' D Gd n → Qd H') :
    ∃ W : Nat → Nat → Hp → Prop, (∃ m, W 0 m (upd H1 D (.lst []))) ∧ ∀ i m H, W i m H →
      ((Itr lo n).stop i H ∧ Qd H) ∨ ((Itr lo n).go i H ∧ ∃ Nx : Hp → Prop, (∀ H', Nx H' → ∃ m', m' < m ∧ W (i + 1) m' H') ∧ ∀ x H', (Itr lo n).yld i H x H' → g x (wipe σ vs) H' fun σ2 H2 => wipe σ2 vs = wipe σ vs ∧ tt σ2 H2 fun b H3 =>
        if b = true then te σ2 H3 fun y H4 => ∃ acc, H4 D = some (.lst acc) ∧ acc.length < sizeLine ∧ Nx (upd H4 D (.lst (acc ++ [y]))) else Nx H3) := by
  refine lc_range (lo := lo) (n := n) (fun i H => Made H1 H D Gd i) (Made.zero nD) ?_ hd
  intro i H hi M
  exact hs i H _ hi M.same (fun H4 q c e nq hq g => M.more nD (by omega) e nq hq g) _
/-- over a list -/
theorem ll_lists {K : PySem.W.Frag} {a : Addr} {xs : List V} {g : TG} {tt : TT} {te : TE} {vs : List Nat} {σ : L2.St} {H1 : Hp} {D : Addr} {Qd : Hp → Prop} (Gd : Nat → List Int → Prop) (nD : H1 D = none) (hS : SqL K H1 a xs) (len : xs.length < 1000000)
    (hs : ∀ i x H' (R : V → Hp → Prop), xs[i]? = some x → Same H1 H' → (∀ H4 q c, Same H' H4 → H' q = none → H4 q = some (.lst (c.map V.int)) → Gd i c → R (.ref q) H4) →
      ∀ N : Hp → Prop, g x (wipe σ vs) H' fun σ2 H2 => wipe σ2 vs = wipe σ vs ∧ tt σ2 H2 fun b H3 => if b = true then te σ2 H3 R else N H3)
    (hd : ∀ H', Made H1 H' D Gd xs.length → Qd H') :
    ∃ W : Nat → Nat → Hp → Prop, (∃ m, W 0 m (upd H1 D (.lst []))) ∧ ∀ i m H, W i m H →
      ((Itl K a).stop i H ∧ Qd H) ∨ ((Itl K a).go i H ∧ ∃ Nx : Hp → Prop, (∀ H', Nx H' → ∃ m', m' < m ∧ W (i + 1) m' H') ∧ ∀ x H', (Itl K a).yld i H x H' → g x (wipe σ vs) H' fun σ2 H2 => wipe σ2 vs = wipe σ vs ∧ tt σ2 H2 fun b H3 =>
        if b = true then te σ2 H3 fun y H4 => ∃ acc, H4 D = some (.lst acc) ∧ acc.length < sizeLine ∧ Nx (upd H4 D (.lst (acc ++ [y]))) else Nx H3) := by
  refine lc_list (K := K) (a := a) (xs := xs) (fun i H => Made H1 H D Gd i) (Made.zero nD) (fun i H _ M => M.same.seq hS) ?_ hd
  intro i x H hi M
  have hl : i < xs.length := (List.getElem?_eq_some_iff.mp hi).1
  exact hs i x H _ hi M.same (fun H4 q c e nq hq g => M.more nD (by omega) e nq hq g) _
theorem paired_reverse {α β : Type} {F : α → β → Prop} {xs : List α} {ys : List β} (h : Paired F xs ys) : Paired F xs.reverse ys.reverse := by
  induction h with
  | nil => exact .nil
  | cons r t ih =>
    rw [List.reverse_cons, List.reverse_cons]
    exact paired_snoc ih r
theorem paired_eq {α β : Type} {F G : α → β → Prop} : ∀ {xs : List α} {ys zs : List β}, Paired F xs ys → Paired G xs zs → (∀ a b c, F a b → G a c → b = c) → ys = zs
  | [], _, _, .nil, .nil, _ => rfl
  | x :: xs, _, _, .cons r t, .cons r' t', k => by rw [k _ _ _ r r', paired_eq t t' k]
end My

/-! Throws, one by one, and what the counts tell of them; a comprehension over a range with a test. -/
namespace My
open PySem PySem.Spec PyProof.Rows L2
/-- the sums of all throws with one die more -/
def more1 (T : List Int) (ds : List Int) : List Int := ds.flatMap fun f => T.map (· + f)
def throwsL (dss : List (List Int)) : List Int := dss.foldl more1 [0]
theorem throwsL_snoc (dss : List (List Int)) (ds : List Int) : throwsL (dss ++ [ds]) = more1 (throwsL dss) ds := by
  unfold throwsL
  rw [List.foldl_append]
  rfl
theorem more1_snoc (T ds : List Int) (f : Int) : more1 T (ds ++ [f]) = more1 T ds ++ T.map (· + f) := by
  unfold more1
  rw [List.flatMap_append]
  simp
theorem more1_len (T : List Int) : ∀ ds : List Int, (more1 T ds).length = ds.length * T.length
  | [] => by simp [more1]
  | f :: r => by
    have ih := more1_len T r
    unfold more1 at ih ⊢
    rw [List.flatMap_cons, List.length_append, List.length_map, ih, List.length_cons, Nat.succ_mul]
    omega
theorem throws_len : ∀ (dss : List (List Int)) (T : List Int), (∀ ds ∈ dss, ds.length ≤ 8) → (dss.foldl more1 T).length ≤ T.length * 8 ^ dss.length
  | [], T, _ => by simp
  | ds :: r, T, h => by
    have h1 := throws_len r (more1 T ds) fun x hx => h x (List.mem_cons_of_mem _ hx)
    have h2 := more1_len T ds
    have h3 : ds.length * T.length ≤ 8 * T.length := Nat.mul_le_mul_right _ (h ds List.mem_cons_self)
    have h4 : (more1 T ds).length * 8 ^ r.length ≤ (8 * T.length) * 8 ^ r.length := Nat.mul_le_mul_right _ (by omega)
    show (r.foldl more1 (more1 T ds)).length ≤ T.length * 8 ^ (r.length + 1)
    rw [Nat.pow_succ, Nat.mul_comm (8 ^ r.length) 8, ← Nat.mul_assoc, Nat.mul_comm T.length 8]
    omega
theorem throws_top {dss : List (List Int)} (h : ∀ ds ∈ dss, ds.length ≤ 8) (l : dss.length ≤ 4) : (throwsL dss).length ≤ 4096 := by
  have h1 := throws_len dss [0] h
  have h2 : (8 : Nat) ^ dss.length ≤ 8 ^ 4 := Nat.pow_le_pow_right (by decide) l
  have h3 : (8 : Nat) ^ 4 = 4096 := by decide
  have h4 : ([0] : List Int).length = 1 := rfl
  rw [h4] at h1
  unfold throwsL
  omega
theorem throws_pos : ∀ (dss : List (List Int)) (T : List Int), (∀ ds ∈ dss, 1 ≤ ds.length) → 1 ≤ T.length → 1 ≤ (dss.foldl more1 T).length
  | [], T, _, h => h
  | ds :: r, T, h, hT => throws_pos r (more1 T ds) (fun x hx => h x (List.mem_cons_of_mem _ hx)) (by
      rw [more1_len]
      exact Nat.mul_pos (h ds List.mem_cons_self) hT)
theorem throws_nonneg : ∀ (dss : List (List Int)) (T : List Int), (∀ ds ∈ dss, ∀ f ∈ ds, 0 ≤ f) → (∀ t ∈ T, 0 ≤ t) → ∀ t ∈ dss.foldl more1 T, 0 ≤ t
  | [], T, _, h => h
  | ds :: r, T, h, hT => throws_nonneg r (more1 T ds) (fun x hx => h x (List.mem_cons_of_mem _ hx)) fun t ht => by
      obtain ⟨f, hf, ht⟩ := List.mem_flatMap.mp ht
      obtain ⟨u, hu, rfl⟩ := List.mem_map.mp ht
      have h1 := h ds List.mem_cons_self f hf
      have h2 := hT u hu
      show 0 ≤ u + f
      omega
/-! ### counting -/
def cntT (T : List Int) : Int → Int := fun s => ((T.count s : Nat) : Int)
theorem count_shift (f s : Int) : ∀ T : List Int, (T.map (· + f)).count s = T.count (s - f)
  | [] => rfl
  | t :: r => by
    rw [List.map_cons, List.count_cons, List.count_cons, count_shift f s r]
    have e : ((t + f == s) : Bool) = (t == s - f) := by
      rw [Bool.eq_iff_iff, beq_iff_eq, beq_iff_eq]
      omega
    rw [e]
theorem cnt_more (T : List Int) : ∀ ds : List Int, cntT (more1 T ds) = conv (cntT T) ds
  | [] => by
    funext s
    show (((more1 T []).count s : Nat) : Int) = 0
    simp [more1]
  | f :: r => by
    funext s
    have ih := congrFun (cnt_more T r) s
    show (((more1 T (f :: r)).count s : Nat) : Int) = cntT T (s - f) + (r.map fun f => cntT T (s - f)).sum
    have ih2 : (((more1 T r).count s : Nat) : Int) = (r.map fun f => cntT T (s - f)).sum := ih
    rw [← ih2]
    show ((((f :: r).flatMap fun f => T.map (· + f)).count s : Nat) : Int) = _
    rw [List.flatMap_cons, List.count_append, count_shift]
    show ((T.count (s - f) + (more1 T r).count s : Nat) : Int) = ((T.count (s - f) : Nat) : Int) + (((more1 T r).count s : Nat) : Int)
    omega
theorem cnt_throws_from : ∀ (dss : List (List Int)) (T : List Int) (g : Int → Int), cntT T = g → cntT (dss.foldl more1 T) = dss.foldl conv g
  | [], T, g, h => h
  | ds :: r, T, g, h => cnt_throws_from r (more1 T ds) (conv g ds) (by rw [cnt_more, h])
theorem cnt_throws (dss : List (List Int)) : cntT (throwsL dss) = cntF dss := cnt_throws_from dss [0] cnt0 (by
  funext s
  show ((([0] : List Int).count s : Nat) : Int) = if s = 0 then 1 else 0
  rw [List.count_cons]
  by_cases e : s = 0
  · rw [if_pos e, e]
    rfl
  · have e2 : ((0 : Int) == s) = false := beq_eq_false_iff_ne.mpr fun z => e z.symm
    rw [if_neg e, e2]
    rfl)
theorem sum_one (keep : Int → Bool) (t : Int) : ∀ ks : List Int, ks.Nodup → t ∈ ks → ((ks.map fun k => if keep k = true then (if t = k then (1 : Int) else 0) else 0).sum = if keep t = true then 1 else 0)
  | [], _, h => by cases h
  | k :: r, hn, h => by
    obtain ⟨h1, h2⟩ := List.nodup_cons.mp hn
    rw [List.map_cons, List.sum_cons]
    by_cases e : t = k
    · have z : (r.map fun k => if keep k = true then (if t = k then (1 : Int) else 0) else 0) = r.map fun _ => (0 : Int) := by
        apply List.map_congr_left
        intro j hj
        have : ¬ t = j := fun c => h1 (by rw [← e, c]; exact hj)
        rw [if_neg this]
        split <;> rfl
      rw [z, sum_zero, ← e, if_pos rfl]
      omega
    · have hr : t ∈ r := (List.mem_cons.mp h).resolve_left e
      rw [sum_one keep t r h2 hr, if_neg e]
      have : (if keep k = true then (0 : Int) else 0) = 0 := by split <;> rfl
      rw [this]
      omega
theorem sum_count (keep : Int → Bool) (ks : List Int) (hn : ks.Nodup) : ∀ T : List Int, (∀ t ∈ T, t ∈ ks) → (ks.map fun k => if keep k = true then cntT T k else 0).sum = (((T.filter keep).length : Nat) : Int)
  | [], _ => by
    have z : (ks.map fun k => if keep k = true then cntT [] k else 0) = ks.map fun _ => (0 : Int) := by
      apply List.map_congr_left
      intro j _
      show (if keep j = true then (((([] : List Int).count j : Nat)) : Int) else 0) = 0
      simp
    rw [z, sum_zero]
    rfl
  | t :: T, h => by
    have ih := sum_count keep ks hn T fun u hu => h u (List.mem_cons_of_mem _ hu)
    have e : (ks.map fun k => if keep k = true then cntT (t :: T) k else 0) = ks.map fun k => (if keep k = true then cntT T k else 0) + (if keep k = true then (if t = k then (1 : Int) else 0) else 0) := by
      apply List.map_congr_left
      intro k _
      show (if keep k = true then (((t :: T).count k : Nat) : Int) else 0) = (if keep k = true then ((T.count k : Nat) : Int) else 0) + _
      by_cases c : keep k = true
      · rw [if_pos c, if_pos c, if_pos c, List.count_cons]
        by_cases e : t = k
        · rw [if_pos e, e]
          simp
        · have e2 : (t == k) = false := beq_eq_false_iff_ne.mpr e
          rw [if_neg e, e2]
          simp
      · rw [if_neg c, if_neg c, if_neg c]
        rfl
    rw [e, sum_add, ih, sum_one keep t ks hn (h t List.mem_cons_self), List.filter_cons]
    split
    · rw [List.length_cons]
      omega
    · omega
/-- what counts tell of the throws: how many of them are kept -/
theorem counts_kept {out : List (Int × Int)} {T : List Int} (keep : Int → Bool) (h : IsCounts (cntT T) out) : ((out.filter fun p => keep p.1).map (·.2)).sum = (((T.filter keep).length : Nat) : Int) := by
  have hn : (out.map (·.1)).Nodup := by
    have : out.Pairwise fun a b => a.1 ≠ b.1 := h.rise.imp fun {a b} c => by omega
    exact List.pairwise_map.mpr this
  have hin : ∀ t ∈ T, t ∈ out.map (·.1) := fun t ht => List.mem_map.mpr ⟨(t, cntT T t), (h.mem _ _).mpr ⟨rfl, by
    have : 0 < T.count t := List.count_pos_iff.mpr ht
    show ((T.count t : Nat) : Int) ≠ 0
    omega⟩, rfl⟩
  rw [← sum_count keep _ hn T hin, List.map_map]
  have all : ∀ p ∈ out, p.2 = cntT T p.1 := fun p hp => ((h.mem p.1 p.2).mp hp).1
  clear hin hn h
  induction out with
  | nil => rfl
  | cons p r ih =>
    have ih2 := ih fun q hq => all q (List.mem_cons_of_mem _ hq)
    rw [List.map_cons, List.sum_cons, ← ih2, List.filter_cons]
    show _ = (if keep p.1 = true then cntT T p.1 else 0) + _
    by_cases c : keep p.1 = true
    · rw [if_pos c, if_pos c, List.map_cons, List.sum_cons, all p List.mem_cons_self]
    · rw [if_neg c, if_neg c]
      omega
/-- all of them -/
theorem counts_all {out : List (Int × Int)} {T : List Int} (h : IsCounts (cntT T) out) : (out.map (·.2)).sum = ((T.length : Nat) : Int) := by
  have z := counts_kept (fun _ => true) h
  rw [List.filter_eq_self.mpr (fun _ _ => rfl), List.filter_eq_self.mpr (fun _ _ => rfl)] at z
  exact z

/-! ### a comprehension over a range, with a test -/
section
variable {K : PySem.W.Frag}
def rangeV (lo : Int) (n : Nat) : List Int := (List.range n).map fun i => lo + ((i : Nat) : Int)
theorem rangeV_snoc (lo : Int) (n : Nat) : rangeV lo (n + 1) = rangeV lo n ++ [lo + ((n : Nat) : Int)] := by
  unfold rangeV
  rw [List.range_succ, List.map_append]
  rfl
theorem rangeV_len (lo : Int) (n : Nat) : (rangeV lo n).length = n := by
  unfold rangeV
  rw [List.length_map, List.length_range]
theorem rangeV_mem {lo : Int} {n : Nat} {z : Int} : z ∈ rangeV lo n ↔ lo ≤ z ∧ z < lo + n := by
  unfold rangeV
  rw [List.mem_map]
  constructor
  · rintro ⟨i, hi, rfl⟩
    have := List.mem_range.mp hi
    omega
  · rintro ⟨h1, h2⟩
    exact ⟨(z - lo).toNat, List.mem_range.mpr (by omega), by omega⟩
theorem lr_map {g : TG} {tt : TT} {te : TE} {vs : List Nat} {σ : L2.St} {H1 : Hp} {D : Addr} {Qd : Hp → Prop} {lo : Int} {n : Nat} (keep : Int → Bool) (f : Int → V)
    (nD : H1 D = none) (len : n < 1000000)
    (hs : ∀ z H' (R : V → Hp → Prop) (N : Hp → Prop), lo ≤ z → z < lo + n → Same H1 H' → (keep z = true → ∀ H4, Same H' H4 → R (f z) H4) → (keep z = false → ∀ H4, Same H' H4 → N H4) →
      g (.int z) (wipe σ vs) H' fun σ2 H2 => wipe σ2 vs = wipe σ vs ∧ tt σ2 H2 fun b H3 => if b = true then te σ2 H3 R else N H3)
    (hd : ∀ H', Same H1 H' → H' D = some (.lst (((rangeV lo n).filter keep).map f)) → Qd H') :
    ∃ W : Nat → Nat → Hp → Prop, (∃ m, W 0 m (upd H1 D (.lst []))) ∧ ∀ i m H, W i m H →
      ((Itr lo n).stop i H ∧ Qd H) ∨ ((Itr lo n).go i H ∧ ∃ Nx : Hp → Prop, (∀ H', Nx H' → ∃ m', m' < m ∧ W (i + 1) m' H') ∧ ∀ x H', (Itr lo n).yld i H x H' → g x (wipe σ vs) H' fun σ2 H2 => wipe σ2 vs = wipe σ vs ∧ tt σ2 H2 fun b H3 =>
        if b = true then te σ2 H3 fun y H4 => ∃ acc, H4 D = some (.lst acc) ∧ acc.length < sizeLine ∧ Nx (upd H4 D (.lst (acc ++ [y]))) else Nx H3) := by
  refine lc_range (lo := lo) (n := n) (fun i H => Same H1 H ∧ H D = some (.lst (((rangeV lo i).filter keep).map f))) ⟨same_new nD, upd_same⟩ ?_ (fun H p => hd H p.1 p.2)
  intro i H hi p
  obtain ⟨p1, p2⟩ := p
  refine hs (lo + i) H _ _ (by omega) (by omega) p1 (fun kx H4 e4 => ?_) (fun kx H4 e4 => ?_)
  · refine ⟨_, e4 _ _ p2, ?_, fun b o e => ?_, ?_⟩
    · refine sz_lt (Nat.lt_of_le_of_lt ?_ len)
      rw [List.length_map]
      refine Nat.le_trans (List.length_filter_le _ _) ?_
      rw [rangeV_len]
      omega
    · rw [upd_ne (ne_of_none e nD)]
      exact e4 _ _ (p1 _ _ e)
    · rw [upd_same, rangeV_snoc, List.filter_append, List.map_append]
      simp [List.filter_cons, kx]
  · refine ⟨p1.trans e4, ?_⟩
    rw [e4 _ _ p2, rangeV_snoc, List.filter_append, List.map_append]
    simp [List.filter_cons, kx]
end
end My
namespace My
open PySem PySem.Spec PyProof.Rows L2
/-- a comprehension over rows -/
theorem lc_rows {K : PySem.W.Frag} {a : Addr} {rows : List (Addr × Int × Int)} {g : TG} {tt : TT} {te : TE} {vs : List Nat} {σ : L2.St} {H1 : Hp} {D : Addr} {Qd : Hp → Prop} (keep : Int × Int → Bool) (f : Int × Int → V)
    (nD : H1 D = none) (hS : RowsAt H1 a rows) (len : rows.length < 1000000)
    (hs : ∀ z H' (R : V → Hp → Prop) (N : Hp → Prop), z ∈ rows → Same H1 H' → H' z.1 = some (.tup [.int z.2.1, .int z.2.2]) → (keep z.2 = true → ∀ H4, Same H' H4 → R (f z.2) H4) → (keep z.2 = false → ∀ H4, Same H' H4 → N H4) →
      g (.ref z.1) (wipe σ vs) H' fun σ2 H2 => wipe σ2 vs = wipe σ vs ∧ tt σ2 H2 fun b H3 => if b = true then te σ2 H3 R else N H3)
    (hd : ∀ H', Same H1 H' → H' D = some (.lst (((rows.map (·.2)).filter keep).map f)) → Qd H') :
    ∃ W : Nat → Nat → Hp → Prop, (∃ m, W 0 m (upd H1 D (.lst []))) ∧ ∀ i m H, W i m H →
      ((Itl K a).stop i H ∧ Qd H) ∨ ((Itl K a).go i H ∧ ∃ Nx : Hp → Prop, (∀ H', Nx H' → ∃ m', m' < m ∧ W (i + 1) m' H') ∧ ∀ x H', (Itl K a).yld i H x H' → g x (wipe σ vs) H' fun σ2 H2 => wipe σ2 vs = wipe σ vs ∧ tt σ2 H2 fun b H3 =>
        if b = true then te σ2 H3 fun y H4 => ∃ acc, H4 D = some (.lst acc) ∧ acc.length < sizeLine ∧ Nx (upd H4 D (.lst (acc ++ [y]))) else Nx H3) := by
  refine lc_list (K := K) (a := a) (xs := rows.map fun z => V.ref z.1) (fun i H => Same H1 H ∧ H D = some (.lst ((((rows.take i).map (·.2)).filter keep).map f))) ⟨same_new nD, upd_same⟩ (fun i H _ p => sq_of (p.1 _ _ hS.1)) ?_ ?_
  · intro i x H hi p
    obtain ⟨p1, p2⟩ := p
    rw [List.getElem?_map] at hi
    cases hz : rows[i]? with
    | none => rw [hz] at hi; cases hi
    | some z =>
      rw [hz] at hi
      cases hi
      have hm := List.mem_of_getElem? hz
      refine hs z H _ _ hm p1 (p1 _ _ (hS.2 z hm)) (fun kx H4 e4 => ?_) (fun kx H4 e4 => ?_)
      · refine ⟨_, e4 _ _ p2, ?_, fun b o e => ?_, ?_⟩
        · refine sz_lt (Nat.lt_of_le_of_lt ?_ len)
          rw [List.length_map]
          refine Nat.le_trans (List.length_filter_le _ _) ?_
          rw [List.length_map, List.length_take]
          exact Nat.min_le_right _ _
        · rw [upd_ne (ne_of_none e nD)]
          exact e4 _ _ (p1 _ _ e)
        · rw [upd_same, take_snoc hz, List.map_append, List.filter_append, List.map_append]
          simp [List.filter_cons, kx]
      · refine ⟨p1.trans e4, ?_⟩
        rw [e4 _ _ p2, take_snoc hz, List.map_append, List.filter_append, List.map_append]
        simp [List.filter_cons, kx]
  · intro H p
    obtain ⟨p1, p2⟩ := p
    rw [List.length_map, List.take_length] at p2
    exact hd H p1 p2
end My

/-! Counts, as all throws have them: how many in all, the least and the greatest sum, all faces together, put together, lifted, falling. -/
namespace My
open PySem PySem.Spec PyProof.Rows L2
/-! ### how many -/
def throwsN (dss : List (List Int)) : Int := dss.foldl (fun m ds => m * ((ds.length : Nat) : Int)) 1
theorem throwsN_snoc (dss : List (List Int)) (ds : List Int) : throwsN (dss ++ [ds]) = throwsN dss * ((ds.length : Nat) : Int) := by
  unfold throwsN
  rw [List.foldl_append]
  rfl
theorem throws_snoc_len (dss : List (List Int)) (ds : List Int) : (throwsL (dss ++ [ds])).length = ds.length * (throwsL dss).length := by
  rw [throwsL_snoc, more1_len]
theorem rev_ind {α : Type} {P : List α → Prop} (h0 : P []) (h1 : ∀ l x, P l → P (l ++ [x])) : ∀ l, P l := by
  intro l
  rw [← List.reverse_reverse l]
  induction l.reverse with
  | nil => exact h0
  | cons x r ih =>
    rw [List.reverse_cons]
    exact h1 _ _ ih
theorem throws_many : ∀ dss : List (List Int), (((throwsL dss).length : Nat) : Int) = throwsN dss := by
  refine rev_ind rfl fun l x ih => ?_
  rw [throws_snoc_len, throwsN_snoc, ← ih, Int.natCast_mul, Int.mul_comm]
/-! ### sums of sums -/
theorem sum_shift (T : List Int) (f : Int) : (T.map (· + f)).sum = T.sum + ((T.length : Nat) : Int) * f := by
  induction T with
  | nil => simp
  | cons t r ih =>
    rw [List.map_cons, List.sum_cons, ih, List.sum_cons, List.length_cons]
    have : (((r.length + 1 : Nat)) : Int) * f = ((r.length : Nat) : Int) * f + f := by
      rw [Int.natCast_add, Int.add_mul]
      omega
    rw [this]
    omega
theorem sum_more (T : List Int) : ∀ ds : List Int, (more1 T ds).sum = ((ds.length : Nat) : Int) * T.sum + ds.sum * ((T.length : Nat) : Int)
  | [] => by simp [more1]
  | f :: r => by
    have ih := sum_more T r
    have e : more1 T (f :: r) = T.map (· + f) ++ more1 T r := by
      unfold more1
      rw [List.flatMap_cons]
    rw [e, List.sum_append, ih, sum_shift, List.sum_cons, List.length_cons, Int.natCast_add, Int.add_mul, Int.add_mul, Int.mul_comm f]
    omega
/-- what all faces bring -/
def broughtL (dss : List (List Int)) : Int := (dss.map fun ds => ds.sum * (throwsN dss / ((ds.length : Nat) : Int))).sum
theorem len_dvd : ∀ (dss : List (List Int)) {ds : List Int}, ds ∈ dss → ((ds.length : Nat) : Int) ∣ throwsN dss := by
  refine rev_ind (fun h => by cases h) fun l x ih ds h => ?_
  rw [throwsN_snoc]
  rcases List.mem_append.mp h with h | h
  · exact Int.dvd_mul_of_dvd_left (ih h)
  · rw [List.mem_singleton.mp h]
    exact Int.dvd_mul_left _ _
theorem throws_sum : ∀ dss : List (List Int), (∀ ds ∈ dss, 1 ≤ ds.length) → (throwsL dss).sum = broughtL dss := by
  refine rev_ind (fun _ => rfl) fun l x ih h => ?_
  have ihl := ih fun ds hds => h ds (List.mem_append_left _ hds)
  have hx := h x (List.mem_append_right _ (List.mem_singleton.mpr rfl))
  rw [throwsL_snoc, sum_more, ihl, throws_many]
  unfold broughtL
  rw [List.map_append, List.sum_append, throwsN_snoc]
  have e1 : (List.map (fun ds => ds.sum * (throwsN l * ((x.length : Nat) : Int) / ((ds.length : Nat) : Int))) [x]).sum = x.sum * throwsN l := by
    rw [List.map_singleton, List.sum_singleton, Int.mul_ediv_cancel _ (by omega)]
  have e2 : (l.map fun ds => ds.sum * (throwsN l * ((x.length : Nat) : Int) / ((ds.length : Nat) : Int))) = l.map fun ds => ((x.length : Nat) : Int) * (ds.sum * (throwsN l / ((ds.length : Nat) : Int))) := by
    apply List.map_congr_left
    intro ds hds
    have hd := len_dvd l hds
    have h1 := h ds (List.mem_append_left _ hds)
    rw [Int.mul_comm (throwsN l), Int.mul_ediv_assoc _ hd, Int.mul_left_comm]
  rw [e1, e2]
  have e3 : ∀ m : List (List Int), (m.map fun ds => ((x.length : Nat) : Int) * (ds.sum * (throwsN l / ((ds.length : Nat) : Int)))).sum = ((x.length : Nat) : Int) * (m.map fun ds => ds.sum * (throwsN l / ((ds.length : Nat) : Int))).sum := by
    intro m
    induction m with
    | nil => simp
    | cons d r ih2 => rw [List.map_cons, List.sum_cons, ih2, List.map_cons, List.sum_cons, Int.mul_add]
  rw [e3]
/-! ### what a list of counts brings -/
theorem sum_weight (f : Int → Int) (ks : List Int) (hn : ks.Nodup) : ∀ T : List Int, (∀ t ∈ T, t ∈ ks) → (ks.map fun k => f k * cntT T k).sum = (T.map f).sum
  | [], _ => by
    have z : (ks.map fun k => f k * cntT [] k) = ks.map fun _ => (0 : Int) := by
      apply List.map_congr_left
      intro j _
      show f j * (((([] : List Int).count j : Nat)) : Int) = 0
      simp
    rw [z, sum_zero]
    rfl
  | t :: T, h => by
    have ih := sum_weight f ks hn T fun u hu => h u (List.mem_cons_of_mem _ hu)
    have e : (ks.map fun k => f k * cntT (t :: T) k) = ks.map fun k => f k * cntT T k + (if t = k then f t else 0) := by
      apply List.map_congr_left
      intro k _
      show f k * (((t :: T).count k : Nat) : Int) = f k * ((T.count k : Nat) : Int) + _
      rw [List.count_cons]
      by_cases e : t = k
      · rw [if_pos e, e, beq_self_eq_true, if_pos rfl, Int.natCast_add, Int.mul_add]
        show _ + f k * 1 = _
        rw [Int.mul_one]
      · have e2 : (t == k) = false := beq_eq_false_iff_ne.mpr e
        rw [if_neg e, e2]
        simp
    have one : ∀ ks : List Int, ks.Nodup → t ∈ ks → (ks.map fun k => if t = k then f t else 0).sum = f t := by
      intro ks
      induction ks with
      | nil => intro _ h; cases h
      | cons k r ih2 =>
        intro hn h
        obtain ⟨h1, h2⟩ := List.nodup_cons.mp hn
        rw [List.map_cons, List.sum_cons]
        by_cases e : t = k
        · have z : (r.map fun k => if t = k then f t else 0) = r.map fun _ => (0 : Int) := by
            apply List.map_congr_left
            intro j hj
            rw [if_neg fun c => h1 (by rw [← e, c]; exact hj)]
          rw [z, sum_zero, if_pos e]
          omega
        · rw [if_neg e, ih2 h2 ((List.mem_cons.mp h).resolve_left e)]
          omega
    rw [e, sum_add, ih, one ks hn (h t List.mem_cons_self), List.map_cons, List.sum_cons]
    omega
theorem counts_nodup {out : List (Int × Int)} {g : Int → Int} (h : IsCounts g out) : (out.map (·.1)).Nodup := by
  have : out.Pairwise fun a b => a.1 ≠ b.1 := h.rise.imp fun {a b} c => by omega
  exact List.pairwise_map.mpr this
theorem counts_mem {out : List (Int × Int)} {T : List Int} (h : IsCounts (cntT T) out) {t : Int} (ht : t ∈ T) : (t, cntT T t) ∈ out := (h.mem _ _).mpr ⟨rfl, by
  have : 0 < T.count t := List.count_pos_iff.mpr ht
  show ((T.count t : Nat) : Int) ≠ 0
  omega⟩
theorem counts_thrown {out : List (Int × Int)} {T : List Int} (h : IsCounts (cntT T) out) {p : Int × Int} (hp : p ∈ out) : p.1 ∈ T := by
  have := (h.mem p.1 p.2).mp hp
  have h2 : ((T.count p.1 : Nat) : Int) ≠ 0 := by
    have e : p.2 = ((T.count p.1 : Nat) : Int) := this.1
    rw [← e]
    exact this.2
  exact List.count_pos_iff.mp (by omega)
/-- over all throws, by the counts -/
theorem counts_weight (f : Int → Int) {out : List (Int × Int)} {T : List Int} (h : IsCounts (cntT T) out) : (out.map fun p => f p.1 * p.2).sum = (T.map f).sum := by
  rw [← sum_weight f (out.map (·.1)) (counts_nodup h) T fun t ht => List.mem_map.mpr ⟨_, counts_mem h ht, rfl⟩, List.map_map]
  congr 1
  apply List.map_congr_left
  intro p hp
  rw [show p.2 = cntT T p.1 from ((h.mem p.1 p.2).mp hp).1]
  rfl
theorem counts_sum {out : List (Int × Int)} {T : List Int} (h : IsCounts (cntT T) out) : (out.map fun p => p.1 * p.2).sum = T.sum := by
  have := counts_weight (fun t => t) h
  rw [List.map_id'] at this
  exact this
/-! ### the least and the greatest -/
theorem fold_least (mn : List Int → Int) : ∀ (dss : List (List Int)) (T : List Int) (t0 : Int), (∀ ds ∈ dss, mn ds ∈ ds ∧ ∀ f ∈ ds, mn ds ≤ f) → t0 ∈ T → (∀ t ∈ T, t0 ≤ t) → t0 + (dss.map mn).sum ∈ dss.foldl more1 T ∧ ∀ t ∈ dss.foldl more1 T, t0 + (dss.map mn).sum ≤ t
  | [], T, t0, _, h0, h1 => by
    rw [List.map_nil, List.sum_nil, Int.add_zero]
    exact ⟨h0, h1⟩
  | ds :: r, T, t0, h, h0, h1 => by
    obtain ⟨m1, m2⟩ := h ds List.mem_cons_self
    have := fold_least mn r (more1 T ds) (t0 + mn ds) (fun x hx => h x (List.mem_cons_of_mem _ hx)) (List.mem_flatMap.mpr ⟨_, m1, List.mem_map.mpr ⟨_, h0, rfl⟩⟩) (fun t ht => by
      obtain ⟨f, hf, ht⟩ := List.mem_flatMap.mp ht
      obtain ⟨u, hu, rfl⟩ := List.mem_map.mp ht
      have a := h1 u hu
      have b := m2 f hf
      show t0 + mn ds ≤ u + f
      omega)
    rw [List.map_cons, List.sum_cons, ← Int.add_assoc]
    exact this
theorem fold_most (mx : List Int → Int) : ∀ (dss : List (List Int)) (T : List Int) (t0 : Int), (∀ ds ∈ dss, mx ds ∈ ds ∧ ∀ f ∈ ds, f ≤ mx ds) → t0 ∈ T → (∀ t ∈ T, t ≤ t0) → t0 + (dss.map mx).sum ∈ dss.foldl more1 T ∧ ∀ t ∈ dss.foldl more1 T, t ≤ t0 + (dss.map mx).sum
  | [], T, t0, _, h0, h1 => by
    rw [List.map_nil, List.sum_nil, Int.add_zero]
    exact ⟨h0, h1⟩
  | ds :: r, T, t0, h, h0, h1 => by
    obtain ⟨m1, m2⟩ := h ds List.mem_cons_self
    have := fold_most mx r (more1 T ds) (t0 + mx ds) (fun x hx => h x (List.mem_cons_of_mem _ hx)) (List.mem_flatMap.mpr ⟨_, m1, List.mem_map.mpr ⟨_, h0, rfl⟩⟩) (fun t ht => by
      obtain ⟨f, hf, ht⟩ := List.mem_flatMap.mp ht
      obtain ⟨u, hu, rfl⟩ := List.mem_map.mp ht
      have a := h1 u hu
      have b := m2 f hf
      show u + f ≤ t0 + mx ds
      omega)
    rw [List.map_cons, List.sum_cons, ← Int.add_assoc]
    exact this
theorem counts_least {out : List (Int × Int)} {dss : List (List Int)} {p : Int × Int} (h : IsCounts (cntF dss) out) (mn : List Int → Int) (hm : ∀ ds ∈ dss, mn ds ∈ ds ∧ ∀ f ∈ ds, mn ds ≤ f) (h0 : out[0]? = some p) : p.1 = (dss.map mn).sum := by
  rw [← cnt_throws] at h
  obtain ⟨a, b⟩ := fold_least mn dss [0] 0 hm List.mem_cons_self (fun t ht => by rw [List.mem_singleton.mp ht]; exact Int.le_refl 0)
  rw [Int.zero_add] at a b
  have h1 := b p.1 (counts_thrown h (List.mem_of_getElem? h0))
  have h2 := counts_mem h a
  cases out with
  | nil => cases h0
  | cons q r =>
    have e : q = p := Option.some.inj h0
    subst e
    rcases List.mem_cons.mp h2 with z | z
    · rw [← z]
    · have := (List.pairwise_cons.mp h.rise).1 _ z
      have : q.1 < (dss.map mn).sum := this
      omega
theorem counts_most {out : List (Int × Int)} {dss : List (List Int)} {p : Int × Int} (h : IsCounts (cntF dss) out) (mx : List Int → Int) (hm : ∀ ds ∈ dss, mx ds ∈ ds ∧ ∀ f ∈ ds, f ≤ mx ds) (h0 : out[out.length - 1]? = some p) : p.1 = (dss.map mx).sum := by
  rw [← cnt_throws] at h
  obtain ⟨a, b⟩ := fold_most mx dss [0] 0 hm List.mem_cons_self (fun t ht => by rw [List.mem_singleton.mp ht]; exact Int.le_refl 0)
  rw [Int.zero_add] at a b
  have h1 := b p.1 (counts_thrown h (List.mem_of_getElem? h0))
  have h2 := counts_mem h a
  obtain ⟨i, hi⟩ := List.mem_iff_getElem?.mp h2
  have hil := (List.getElem?_eq_some_iff.mp hi).1
  by_cases c : i = out.length - 1
  · rw [c, h0] at hi
    rw [Option.some.inj hi]
  · obtain ⟨hj, ej⟩ := List.getElem?_eq_some_iff.mp h0
    obtain ⟨hk, ek⟩ := List.getElem?_eq_some_iff.mp hi
    have := List.pairwise_iff_getElem.mp h.rise i (out.length - 1) hk hj (by omega)
    rw [ej, ek] at this
    have : (dss.map mx).sum < p.1 := this
    omega
/-! ### put together -/
def togI (t n : Int) (m others : List (Int × Int)) : List (Int × Int) := others.foldl (fun m q => addI m (t + q.1) (n * q.2)) m
def togW (rows others : List (Int × Int)) : List (Int × Int) := rows.foldl (fun m p => togI p.1 p.2 m others) []
theorem togI_snoc (t n : Int) (m others : List (Int × Int)) (q : Int × Int) : togI t n m (others ++ [q]) = addI (togI t n m others) (t + q.1) (n * q.2) := by
  unfold togI
  rw [List.foldl_append]
  rfl
theorem togW_snoc (rows : List (Int × Int)) (p : Int × Int) (others : List (Int × Int)) : togW (rows ++ [p]) others = togI p.1 p.2 (togW rows others) others := by
  unfold togW
  rw [List.foldl_append]
  rfl
theorem togI_look (t n : Int) (s : Int) : ∀ (others m : List (Int × Int)), lookI (togI t n m others) s = lookI m s + (others.map fun q => if s = t + q.1 then n * q.2 else 0).sum
  | [], m => by
    show lookI m s = lookI m s + 0
    omega
  | q :: r, m => by
    have ih := togI_look t n s r (addI m (t + q.1) (n * q.2))
    show lookI (togI t n (addI m (t + q.1) (n * q.2)) r) s = _
    rw [ih, look_add, List.map_cons, List.sum_cons]
    omega
theorem togI_nd (t n : Int) : ∀ (others m : List (Int × Int)), (m.map (·.1)).Nodup → ((togI t n m others).map (·.1)).Nodup
  | [], m, h => h
  | q :: r, m, h => togI_nd t n r _ (nodup_put _ _ h)
theorem togI_pos {t n : Int} (hn : 0 < n) : ∀ (others m : List (Int × Int)), (∀ p ∈ others, 0 < p.2) → (∀ p ∈ m, 0 < p.2) → ∀ p ∈ togI t n m others, 0 < p.2
  | [], m, _, h => h
  | q :: r, m, ho, h => togI_pos hn r _ (fun p hp => ho p (List.mem_cons_of_mem _ hp)) (pos_add (Int.mul_pos hn (ho q List.mem_cons_self)) h)
theorem togI_len (t n : Int) : ∀ (others m : List (Int × Int)), (togI t n m others).length ≤ m.length + others.length
  | [], m => Nat.le_refl _
  | q :: r, m => by
    have ih := togI_len t n r (addI m (t + q.1) (n * q.2))
    have h := len_put m (t + q.1) (lookI m (t + q.1) + n * q.2)
    have e : togI t n m (q :: r) = togI t n (addI m (t + q.1) (n * q.2)) r := rfl
    have e2 : (addI m (t + q.1) (n * q.2)).length ≤ m.length + 1 := h
    rw [e, List.length_cons]
    omega
theorem togF_look (others : List (Int × Int)) (s : Int) : ∀ (rows m : List (Int × Int)), lookI (rows.foldl (fun m p => togI p.1 p.2 m others) m) s = lookI m s + (rows.map fun p => (others.map fun q => if s = p.1 + q.1 then p.2 * q.2 else 0).sum).sum
  | [], m => by
    show lookI m s = lookI m s + 0
    omega
  | p :: r, m => by
    have ih := togF_look others s r (togI p.1 p.2 m others)
    show lookI (r.foldl (fun m p => togI p.1 p.2 m others) (togI p.1 p.2 m others)) s = _
    rw [ih, togI_look, List.map_cons, List.sum_cons]
    omega
theorem togF_nd (others : List (Int × Int)) : ∀ (rows m : List (Int × Int)), (m.map (·.1)).Nodup → ((rows.foldl (fun m p => togI p.1 p.2 m others) m).map (·.1)).Nodup
  | [], _, h => h
  | p :: r, m, h => togF_nd others r _ (togI_nd _ _ _ _ h)
theorem togF_pos (others : List (Int × Int)) (ho : ∀ p ∈ others, 0 < p.2) : ∀ (rows m : List (Int × Int)), (∀ p ∈ rows, 0 < p.2) → (∀ p ∈ m, 0 < p.2) → ∀ p ∈ rows.foldl (fun m p => togI p.1 p.2 m others) m, 0 < p.2
  | [], _, _, h => h
  | p :: r, m, hr, h => togF_pos others ho r _ (fun q hq => hr q (List.mem_cons_of_mem _ hq)) (togI_pos (hr p List.mem_cons_self) _ _ ho h)
theorem togF_len (others : List (Int × Int)) : ∀ (rows m : List (Int × Int)), (rows.foldl (fun m p => togI p.1 p.2 m others) m).length ≤ m.length + rows.length * others.length
  | [], m => by simp
  | p :: r, m => by
    have ih := togF_len others r (togI p.1 p.2 m others)
    have h := togI_len p.1 p.2 others m
    show (r.foldl (fun m p => togI p.1 p.2 m others) (togI p.1 p.2 m others)).length ≤ _
    rw [List.length_cons, Nat.succ_mul]
    omega
theorem togW_len (rows others : List (Int × Int)) : (togW rows others).length ≤ rows.length * others.length := by
  have := togF_len others rows []
  rw [List.length_nil, Nat.zero_add] at this
  exact this
theorem tog_part (rows others : List (Int × Int)) (i j : Nat) (p : Int × Int) (h : rows[i]? = some p) (hj : j < others.length) : (togI p.1 p.2 (togW (rows.take i) others) (others.take j)).length < rows.length * others.length := by
  have h1 := togI_len p.1 p.2 (others.take j) (togW (rows.take i) others)
  have h2 := togW_len (rows.take i) others
  have h3 : i < rows.length := (List.getElem?_eq_some_iff.mp h).1
  rw [List.length_take, Nat.min_eq_left (Nat.le_of_lt h3)] at h2
  rw [List.length_take, Nat.min_eq_left (Nat.le_of_lt hj)] at h1
  have h4 : (i + 1) * others.length ≤ rows.length * others.length := Nat.mul_le_mul_right _ h3
  rw [Nat.succ_mul] at h4
  omega
theorem counts_pos {out : List (Int × Int)} {T : List Int} (h : IsCounts (cntT T) out) : ∀ p ∈ out, 0 < p.2 := fun p hp => by
  obtain ⟨a, b⟩ := (h.mem p.1 p.2).mp hp
  have e : p.2 = ((T.count p.1 : Nat) : Int) := a
  omega
theorem counts_look {out : List (Int × Int)} {T : List Int} (h : IsCounts (cntT T) out) (s : Int) : (out.map fun q => if q.1 = s then q.2 else 0).sum = cntT T s := by
  have := sum_look s (counts_nodup h)
  rw [this]
  by_cases c : s ∈ T
  · exact look_mem (counts_nodup h) (counts_mem h c)
  · have z : cntT T s = 0 := by
      show ((T.count s : Nat) : Int) = 0
      rw [List.count_eq_zero.mpr c]
      rfl
    rw [z]
    cases Decidable.em (lookI out s = 0) with
    | inl e => exact e
    | inr e => exact absurd (counts_thrown h (look_ne_mem e)) c
theorem tells_together {rows others : List (Int × Int)} {T U : List Int} (h1 : IsCounts (cntT T) rows) (h2 : IsCounts (cntT U) others) : Tells (togW rows others) (conv (cntT U) T) where
  nd := togF_nd others rows [] List.nodup_nil
  look := fun s => by
    unfold togW
    rw [togF_look]
    show 0 + _ = (T.map fun f => cntT U (s - f)).sum
    rw [← counts_weight (fun f => cntT U (s - f)) h1, Int.zero_add]
    congr 1
    apply List.map_congr_left
    intro p _
    show _ = cntT U (s - p.1) * p.2
    rw [← counts_look h2, Int.mul_comm]
    generalize others = l
    induction l with
    | nil => simp
    | cons q r ih =>
      rw [List.map_cons, List.sum_cons, ih, List.map_cons, List.sum_cons, Int.mul_add]
      congr 1
      by_cases c : s = p.1 + q.1
      · rw [if_pos c, if_pos (by omega)]
      · rw [if_neg c, if_neg (by omega), Int.mul_zero]
  pos := togF_pos others (counts_pos h2) rows [] (counts_pos h1) (fun p h => by cases h)
theorem throws_one (d : List Int) : throwsL [d] = d := by
  show (d.flatMap fun f => [0].map (· + f)) = d
  induction d with
  | nil => rfl
  | cons f r ih =>
    rw [List.flatMap_cons, ih]
    show (0 + f) :: r = f :: r
    rw [Int.zero_add]
/-- the first die's counts and the others' -/
theorem together_all {d : List Int} {dr : List (List Int)} {rows others : List (Int × Int)} (h1 : IsCounts (cntF [d]) rows) (h2 : IsCounts (cntF dr) others) : Tells (togW rows others) (cntF (d :: dr)) := by
  rw [← cnt_throws] at h1 h2
  have := tells_together h1 h2
  rw [throws_one, cnt_throws] at this
  have e : conv (cntF dr) d = cntF (d :: dr) := by
    have e1 : conv (cntF dr) d = cntF (dr ++ [d]) := by
      unfold cntF
      rw [List.foldl_append]
      rfl
    rw [e1]
    exact cntF_perm (List.perm_append_comm (l₁ := dr) (l₂ := [d]))
  rw [← e]
  exact this
/-! ### lifted -/
theorem conv_lift {g g' : Int → Int} {l : Int} (h : ∀ s, g' s = g (s - l)) (ds : List Int) : ∀ s, conv g' ds s = conv g ds (s - l) := fun s => by
  unfold conv
  congr 1
  apply List.map_congr_left
  intro f _
  rw [h]
  congr 1
  omega
theorem fold_lift {l : Int} : ∀ (dss : List (List Int)) {g g' : Int → Int}, (∀ s, g' s = g (s - l)) → ∀ s, dss.foldl conv g' s = dss.foldl conv g (s - l)
  | [], _, _, h => h
  | ds :: r, _, _, h => fold_lift r (conv_lift h ds)
theorem counts_lift {d : List Int} {dr : List (List Int)} {l : Int} {out : List (Int × Int)} (h : IsCounts (cntF (d :: dr)) out) : IsCounts (cntF (d.map (· + l) :: dr)) (out.map fun p => (p.1 + l, p.2)) := by
  have e : ∀ s, cntF (d.map (· + l) :: dr) s = cntF (d :: dr) (s - l) := by
    refine fold_lift dr (g := conv cnt0 d) (g' := conv cnt0 (d.map (· + l))) fun s => ?_
    unfold conv
    rw [List.map_map]
    congr 1
    apply List.map_congr_left
    intro f _
    show cnt0 (s - (f + l)) = cnt0 (s - l - f)
    congr 1
    omega
  refine ⟨List.pairwise_map.mpr (h.rise.imp fun {a b} c => by show a.1 + l < b.1 + l; omega), fun s n => ?_⟩
  rw [e, ← h.mem]
  constructor
  · intro hm
    obtain ⟨p, hp, ep⟩ := List.mem_map.mp hm
    cases ep
    show (p.1 + l - l, p.2) ∈ out
    rw [Int.add_sub_cancel]
    exact hp
  · intro hm
    exact List.mem_map.mpr ⟨_, hm, by show (s - l + l, n) = (s, n); rw [Int.sub_add_cancel]⟩
/-! ### falling -/
theorem filter_rise {out : List (Int × Int)} (h : out.Pairwise fun a b => a.1 < b.1) {i : Nat} {p : Int × Int} (hi : out[i]? = some p) : (out.filter fun q => decide (p.1 ≤ q.1)) = out.drop i ∧ (out.filter fun q => decide (p.1 + 1 ≤ q.1)) = out.drop (i + 1) := by
  induction out generalizing i with
  | nil => cases hi
  | cons q r ih =>
    obtain ⟨h1, h2⟩ := List.pairwise_cons.mp h
    cases i with
    | zero =>
      have e : q = p := Option.some.inj hi
      subst e
      have a1 : (r.filter fun x => decide (q.1 ≤ x.1)) = r := List.filter_eq_self.mpr fun x hx => decide_eq_true (by have := h1 x hx; omega)
      have a2 : (r.filter fun x => decide (q.1 + 1 ≤ x.1)) = r := List.filter_eq_self.mpr fun x hx => decide_eq_true (by have := h1 x hx; omega)
      constructor
      · rw [List.filter_cons, if_pos (decide_eq_true (Int.le_refl _)), a1]
        rfl
      · rw [List.filter_cons, if_neg (by rw [decide_eq_true_eq]; omega), a2]
        rfl
    | succ j =>
      have hj : r[j]? = some p := hi
      have hq := h1 p (List.mem_of_getElem? hj)
      obtain ⟨b1, b2⟩ := ih h2 hj
      constructor
      · rw [List.filter_cons, if_neg (by rw [decide_eq_true_eq]; omega), b1]
        rfl
      · rw [List.filter_cons, if_neg (by rw [decide_eq_true_eq]; omega), b2]
        rfl
theorem counts_left {out : List (Int × Int)} {T : List Int} (h : IsCounts (cntT T) out) {i : Nat} {p : Int × Int} (hi : out[i]? = some p) :
    (((T.filter fun s => decide (p.1 ≤ s)).length : Nat) : Int) = ((T.length : Nat) : Int) - ((out.take i).map (·.2)).sum ∧ (((T.filter fun s => decide (p.1 + 1 ≤ s)).length : Nat) : Int) = ((T.length : Nat) : Int) - ((out.take (i + 1)).map (·.2)).sum := by
  obtain ⟨a, b⟩ := filter_rise h.rise hi
  have k1 := counts_kept (fun s => decide (p.1 ≤ s)) h
  have k2 := counts_kept (fun s => decide (p.1 + 1 ≤ s)) h
  have all := counts_all h
  have e1 : ((out.filter fun q => decide (p.1 ≤ q.1)).map (·.2)).sum = (((T.filter fun s => decide (p.1 ≤ s)).length : Nat) : Int) := k1
  have e2 : ((out.filter fun q => decide (p.1 + 1 ≤ q.1)).map (·.2)).sum = (((T.filter fun s => decide (p.1 + 1 ≤ s)).length : Nat) : Int) := k2
  have s : ∀ j, ((out.take j).map (·.2)).sum + ((out.drop j).map (·.2)).sum = (out.map (·.2)).sum := fun j => by
    rw [← List.sum_append, ← List.map_append, List.take_append_drop]
  have s1 := s i
  have s2 := s (i + 1)
  rw [a] at e1
  rw [b] at e2
  constructor
  · omega
  · omega
/-! ### above, below, alike -/
def aboveN (ds es : List Int) : Int := (ds.map fun f => (((es.filter fun g => decide (g < f)).length : Nat) : Int)).sum
def alikeN (ds es : List Int) : Int := (ds.map fun f => ((es.count f : Nat) : Int)).sum
theorem three_ways (f : Int) : ∀ es : List Int, (((es.filter fun g => decide (g < f)).length : Nat) : Int) + ((es.count f : Nat) : Int) + (es.map fun g => if f < g then (1 : Int) else 0).sum = ((es.length : Nat) : Int)
  | [] => rfl
  | g :: r => by
    have ih := three_ways f r
    rw [List.filter_cons, List.count_cons, List.map_cons, List.sum_cons, List.length_cons]
    by_cases c1 : g < f
    · rw [if_pos (decide_eq_true c1), List.length_cons, if_neg (by omega : ¬ f < g)]
      have : (g == f) = false := beq_eq_false_iff_ne.mpr (by omega)
      rw [this]
      simp only [Bool.false_eq_true, if_false]
      omega
    · rw [if_neg (by rw [decide_eq_true_eq]; exact c1)]
      by_cases c2 : g = f
      · rw [if_neg (by omega : ¬ f < g), c2, beq_self_eq_true, if_pos rfl]
        omega
      · have : (g == f) = false := beq_eq_false_iff_ne.mpr c2
        rw [if_pos (by omega : f < g), this]
        simp only [Bool.false_eq_true, if_false]
        omega
theorem filter_ones (es : List Int) (f : Int) : (((es.filter fun g => decide (g < f)).length : Nat) : Int) = (es.map fun g => if g < f then (1 : Int) else 0).sum := by
  induction es with
  | nil => rfl
  | cons g r ih =>
    rw [List.filter_cons, List.map_cons, List.sum_cons, ← ih]
    by_cases c : g < f
    · rw [if_pos (decide_eq_true c), if_pos c, List.length_cons]
      omega
    · rw [if_neg (by rw [decide_eq_true_eq]; exact c), if_neg c]
      omega
theorem whole_ways (ds es : List Int) : alikeN ds es + aboveN ds es + aboveN es ds = ((ds.length : Nat) : Int) * ((es.length : Nat) : Int) := by
  have e : aboveN es ds = (ds.map fun f => (es.map fun g => if f < g then (1 : Int) else 0).sum).sum := by
    unfold aboveN
    rw [sum_swap (fun f g => if f < g then (1 : Int) else 0) es ds]
    congr 1
    apply List.map_congr_left
    intro f _
    exact filter_ones ds f
  rw [e]
  unfold alikeN aboveN
  rw [← sum_add, ← sum_add]
  have : (ds.map fun f => ((es.count f : Nat) : Int) + (((es.filter fun g => decide (g < f)).length : Nat) : Int) + (es.map fun g => if f < g then (1 : Int) else 0).sum) = ds.map fun _ => ((es.length : Nat) : Int) := by
    apply List.map_congr_left
    intro f _
    have := three_ways f es
    omega
  rw [this]
  clear this e
  induction ds with
  | nil => simp
  | cons d r ih =>
    rw [List.map_cons, List.sum_cons, ih, List.length_cons, Int.natCast_add, Int.add_mul]
    omega
end My

/-! min of a list of data that have an order (lists of whole numbers, too): the first of the least, the very item. -/
namespace My
open PySem PySem.Spec PyProof.Rows L2
section
open PySem.W (Datum DatumOrd)
variable {α : Type} [DecidableEq α] [DatumOrd α] {K : PySem.W.Frag} {H : Hp}
def rLeast (α : Type) [DecidableEq α] [DatumOrd α] (K : PySem.W.Frag) : List V → Hp → VK → Prop := fun vs H Q => ∃ (a : Addr) (xs : List V) (d : α) (ds : List α), vs = [.ref a] ∧ SqL K H a xs ∧ IsAll K H xs (d :: ds) ∧ Datum.depth α ≤ 60 ∧
  ∀ (i : Nat) (x : V), xs[i]? = some x → (d :: ds)[i]? = some (PySem.W.minOf d ds) → Q x H
theorem fold_datum (d : α) (ds : List α) : (ds.map (Datum.toD (α := α))).foldl (fun a y => if PySem.W.dataLt y a then y else a) (Datum.toD d) = Datum.toD (PySem.W.minOf d ds) := PySem.W.minD_map d ds
theorem toD_inj {a b : α} (h : Datum.toD a = Datum.toD b) : a = b := by
  have e1 : PyData.eqv (Datum.toD a) (Datum.toD b) = decide (a = b) := Datum.eqv a b
  have e2 : PyData.eqv (Datum.toD a) (Datum.toD a) = decide (a = a) := Datum.eqv a a
  rw [← h, e2] at e1
  rw [decide_eq_true rfl] at e1
  exact of_decide_eq_true e1.symm
theorem cr_least {X : Cx} (hc : X.calm = true) (hu : X.A.units + 64 < cLine) : CallR X (.builtin "min") (rLeast α X.K) := by
  intro pins s σ H vs us Q I r h
  obtain ⟨a, xs, d, ds, rfl, hs, hall, hdep, q⟩ := h
  obtain ⟨its, rv, hl, _⟩ := I.list hs
  rw [Vals.ref1 r]
  obtain ⟨as, hr⟩ := Dp.readsAll I _ xs its hall.dp rv
  have hr2 : ReadsAll s.heap its.toArray.toList ((d :: ds).map Datum.toD) as := hr
  have hlen : its.toArray.size = (d :: ds).length := by
    have := PySem.W.readsAll_len hr2
    rw [List.length_map] at this
    exact this
  have hroom : X.A.units + 1 + PyData.depthAll ((d :: ds).map Datum.toD) < cLine := by
    have := PySem.W.depthAll_map (d :: ds)
    omega
  refine PySem.call_min_walkH (PySem.W.iter_listW (A := X.A.in1) (I.ok.hd hc) hl.isList fun s₂ e W st hfp hw hk => ?_)
  refine ⟨_, _, _, _, _, _, _, s.heap, _, rfl, W, st, hfp, by rw [hlen, List.length_cons]; omega, hw, hk, PySem.W.cmpIn_lt (A := X.A.in1) hr2 (PySem.W.alikeAll_datum (d :: ds)) hroom, fun v s' hP m => ?_⟩
  obtain ⟨h', tk, rfl, hk'⟩ := PySem.W.moved_old e rfl m
  have hb := PySem.W.argBest_fold PySem.W.dataLt PyData.none (Datum.toD d) (ds.map Datum.toD) ds.length (by rw [List.length_map]; exact Nat.le_refl _)
  have hn : its.toArray.size - 1 = ds.length := by rw [hlen, List.length_cons]; omega
  have hP2 : its[argBest (fun i j => PySem.W.dataLt (((d :: ds).map Datum.toD).getD i .none) (((d :: ds).map Datum.toD).getD j .none)) ds.length]? = some v := by
    have := hP
    rw [hn] at this
    simpa using this
  have hb1 := hb.1
  have hb2 := hb.2
  rw [List.take_of_length_le (by rw [List.length_map]; exact Nat.le_refl _), fold_datum] at hb2
  generalize hi : argBest (fun i j => PySem.W.dataLt (((d :: ds).map Datum.toD).getD i .none) (((d :: ds).map Datum.toD).getD j .none)) ds.length = i at *
  have hi2 : argBest (fun i j => PySem.W.dataLt ((Datum.toD d :: ds.map Datum.toD).getD i PyData.none) ((Datum.toD d :: ds.map Datum.toD).getD j PyData.none)) ds.length = i := hi
  rw [hi2] at hb1 hb2
  have hlt : i < (d :: ds).length := by rw [List.length_cons]; omega
  have hxl : xs.length = its.length := rv.length
  have hil : i < xs.length := by
    rw [hxl]
    exact (List.getElem?_eq_some_iff.mp hP2).1
  obtain ⟨u, hu1, hu2⟩ := rv.get (List.getElem?_eq_getElem hil)
  rw [hP2] at hu1
  cases hu1
  refine ⟨xs[i], H, I.kept hk', hu2, q i _ (List.getElem?_eq_getElem hil) ?_⟩
  rw [List.getElem?_eq_getElem hlt]
  congr 1
  apply toD_inj
  rw [← hb2, List.getD_eq_getElem?_getD]
  show _ = (((d :: ds).map Datum.toD)[i]?).getD PyData.none
  rw [List.getElem?_map, List.getElem?_eq_getElem hlt]
  rfl
end
/-! ### lists of whole numbers, by their first difference -/
def lxL : List Int → List Int → Bool
  | [], [] => false
  | [], _ :: _ => true
  | _ :: _, [] => false
  | x :: xs, y :: ys => if x = y then lxL xs ys else decide (x < y)
theorem lxL_is : ∀ a b : List Int, PySem.W.DatumOrd.lt a b = lxL a b
  | [], [] => rfl
  | [], _ :: _ => rfl
  | _ :: _, [] => rfl
  | x :: xs, y :: ys => by
    have ih := lxL_is xs ys
    show (if x = y then PySem.W.listLt xs ys else decide (x < y)) = if x = y then lxL xs ys else decide (x < y)
    rw [show PySem.W.listLt xs ys = lxL xs ys from ih]
theorem lxL_irr : ∀ a : List Int, lxL a a = false
  | [] => rfl
  | x :: r => by
    show (if x = x then lxL r r else decide (x < x)) = false
    rw [if_pos rfl, lxL_irr r]
theorem lxL_trans : ∀ {a b c : List Int}, lxL a b = true → lxL b c = true → lxL a c = true
  | [], [], _, h, _ => by cases h
  | [], _ :: _, [], _, h => by cases h
  | [], _ :: _, _ :: _, _, _ => rfl
  | _ :: _, [], _, h, _ => by cases h
  | _ :: _, _ :: _, [], _, h => by cases h
  | x :: a, y :: b, z :: c, h1, h2 => by
    have h1' : (if x = y then lxL a b else decide (x < y)) = true := h1
    have h2' : (if y = z then lxL b c else decide (y < z)) = true := h2
    show (if x = z then lxL a c else decide (x < z)) = true
    by_cases e1 : x = y
    · rw [if_pos e1] at h1'
      by_cases e2 : y = z
      · rw [if_pos e2] at h2'
        rw [if_pos (e1.trans e2)]
        exact lxL_trans h1' h2'
      · rw [if_neg e2] at h2'
        have := of_decide_eq_true h2'
        rw [if_neg (by omega)]
        exact decide_eq_true (by omega)
    · rw [if_neg e1] at h1'
      have l1 := of_decide_eq_true h1'
      by_cases e2 : y = z
      · rw [if_neg (by omega)]
        exact decide_eq_true (by omega)
      · rw [if_neg e2] at h2'
        have := of_decide_eq_true h2'
        rw [if_neg (by omega)]
        exact decide_eq_true (by omega)
theorem lxL_total : ∀ {a b : List Int}, lxL a b = false → lxL b a = false → a = b
  | [], [], _, _ => rfl
  | [], _ :: _, h, _ => by cases h
  | _ :: _, [], _, h => by cases h
  | x :: a, y :: b, h1, h2 => by
    have h1' : (if x = y then lxL a b else decide (x < y)) = false := h1
    have h2' : (if y = x then lxL b a else decide (y < x)) = false := h2
    by_cases e : x = y
    · rw [if_pos e] at h1'
      rw [if_pos e.symm] at h2'
      rw [e, lxL_total h1' h2']
    · rw [if_neg e] at h1'
      rw [if_neg fun z => e z.symm] at h2'
      have a1 := of_decide_eq_false h1'
      have a2 := of_decide_eq_false h2'
      exact absurd (show x = y by omega) e
theorem minOf_mem : ∀ (ds : List (List Int)) (d : List Int), PySem.W.minOf d ds ∈ d :: ds
  | [], d => List.mem_cons_self
  | y :: r, d => by
    have ih := minOf_mem r (if PySem.W.DatumOrd.lt y d = true then y else d)
    have e : PySem.W.minOf d (y :: r) = PySem.W.minOf (if PySem.W.DatumOrd.lt y d = true then y else d) r := rfl
    rw [e]
    rcases List.mem_cons.mp ih with h | h
    · rw [h]
      split
      · exact List.mem_cons_of_mem _ List.mem_cons_self
      · exact List.mem_cons_self
    · exact List.mem_cons_of_mem _ (List.mem_cons_of_mem _ h)
theorem minOf_le : ∀ (ds : List (List Int)) (d : List Int), ∀ e ∈ d :: ds, lxL e (PySem.W.minOf d ds) = false
  | [], d, e, h => by
    rw [List.mem_singleton.mp h]
    exact lxL_irr d
  | y :: r, d, e, h => by
    have ih := minOf_le r (if PySem.W.DatumOrd.lt y d = true then y else d)
    have eq : PySem.W.minOf d (y :: r) = PySem.W.minOf (if PySem.W.DatumOrd.lt y d = true then y else d) r := rfl
    rw [eq]
    generalize PySem.W.minOf (if PySem.W.DatumOrd.lt y d = true then y else d) r = m at *
    rw [lxL_is] at ih
    rcases List.mem_cons.mp h with h | h
    · subst h
      have i0 := ih _ List.mem_cons_self
      by_cases c : lxL y e = true
      · rw [if_pos c] at i0
        cases z : lxL e m with
        | false => rfl
        | true => rw [lxL_trans c z] at i0; cases i0
      · rw [if_neg c] at i0
        exact i0
    · rcases List.mem_cons.mp h with h | h
      · subst h
        have i0 := ih _ List.mem_cons_self
        by_cases c : lxL e d = true
        · rw [if_pos c] at i0
          exact i0
        · rw [if_neg c] at i0
          cases z : lxL e m with
          | false => rfl
          | true =>
            by_cases e2 : e = d
            · rw [e2, i0] at z
              cases z
            · by_cases c2 : lxL d e = true
              · rw [lxL_trans c2 z] at i0
                cases i0
              · exact absurd (lxL_total (Bool.eq_false_iff.mpr c) (Bool.eq_false_iff.mpr c2)) e2
      · exact ih e (List.mem_cons_of_mem _ h)
end My

/-! Pairs with given counts: one die and the counts leave just one other die; what is to be told is just one list. -/
namespace My
open PySem PySem.Spec PyProof.Rows L2
/-- rising faces -/
def Rising (d : List Int) : Prop := d.Pairwise (· ≤ ·)
theorem conv_nil (g : Int → Int) (s : Int) : conv g [] s = 0 := rfl
theorem conv_cons (g : Int → Int) (f : Int) (e : List Int) (s : Int) : conv g (f :: e) s = g (s - f) + conv g e s := by
  unfold conv
  rw [List.map_cons, List.sum_cons]
theorem cntT_nonneg (T : List Int) (s : Int) : 0 ≤ cntT T s := Int.natCast_nonneg _
theorem conv_nonneg (d : List Int) (s : Int) : ∀ e : List Int, 0 ≤ conv (cntT d) e s
  | [] => Int.le_refl 0
  | f :: e => by
    rw [conv_cons]
    have := cntT_nonneg d (s - f)
    have := conv_nonneg d s e
    omega
theorem cntT_pos {d : List Int} {s : Int} : 0 < cntT d s ↔ s ∈ d := by
  unfold cntT
  rw [← List.count_pos_iff]
  omega
/-- a sum comes just where two faces come to it -/
theorem conv_pos {d : List Int} {s : Int} : ∀ {e : List Int}, 0 < conv (cntT d) e s ↔ ∃ x ∈ d, ∃ f ∈ e, x + f = s
  | [] => by
    rw [conv_nil]
    constructor
    · intro h
      omega
    · rintro ⟨_, _, _, h, _⟩
      cases h
  | f :: e => by
    rw [conv_cons]
    have h1 := cntT_nonneg d (s - f)
    have h2 := conv_nonneg d s e
    have ih := conv_pos (d := d) (s := s) (e := e)
    constructor
    · intro h
      by_cases c : 0 < cntT d (s - f)
      · exact ⟨s - f, cntT_pos.mp c, f, List.mem_cons_self, by omega⟩
      · obtain ⟨x, hx, g, hg, e⟩ := ih.mp (by omega)
        exact ⟨x, hx, g, List.mem_cons_of_mem _ hg, e⟩
    · rintro ⟨x, hx, g, hg, hs⟩
      rcases List.mem_cons.mp hg with c | hg
      · subst c
        have : 0 < cntT d (s - g) := cntT_pos.mpr (by rw [← hs, Int.add_sub_cancel]; exact hx)
        omega
      · have := ih.mpr ⟨x, hx, g, hg, hs⟩
        omega
/-- the least sum is that of the least faces -/
theorem conv_least {d : List Int} {d0 e0 : Int} {e : List Int} (h0 : d0 ∈ d) (hd : ∀ x ∈ d, d0 ≤ x) (he : Rising (e0 :: e)) : 0 < conv (cntT d) (e0 :: e) (d0 + e0) ∧ ∀ s, 0 < conv (cntT d) (e0 :: e) s → d0 + e0 ≤ s := by
  refine ⟨conv_pos.mpr ⟨d0, h0, e0, List.mem_cons_self, rfl⟩, fun s hs => ?_⟩
  obtain ⟨x, hx, f, hf, e1⟩ := conv_pos.mp hs
  have a := hd x hx
  have b : e0 ≤ f := by
    rcases List.mem_cons.mp hf with c | hf
    · omega
    · exact (List.pairwise_cons.mp he).1 f hf
  omega
/-- one die and the counts leave just one other die -/
theorem conv_cancel {d : List Int} {d0 : Int} (h0 : d0 ∈ d) (hd : ∀ x ∈ d, d0 ≤ x) : ∀ {e e' : List Int}, Rising e → Rising e' → (∀ s, conv (cntT d) e s = conv (cntT d) e' s) → e = e'
  | [], [], _, _, _ => rfl
  | [], y :: r, _, h2, h => by
    have := (conv_least h0 hd h2).1
    rw [← h, conv_nil] at this
    omega
  | x :: r, [], h1, _, h => by
    have := (conv_least h0 hd h1).1
    rw [h, conv_nil] at this
    omega
  | x :: r, y :: r', h1, h2, h => by
    obtain ⟨a1, a2⟩ := conv_least h0 hd h1
    obtain ⟨b1, b2⟩ := conv_least h0 hd h2
    have c1 := b2 _ (by rw [← h]; exact a1)
    have c2 := a2 _ (by rw [h]; exact b1)
    have e : x = y := by omega
    subst e
    rw [conv_cancel h0 hd (List.pairwise_cons.mp h1).2 (List.pairwise_cons.mp h2).2 fun s => by
      have := h s
      rw [conv_cons, conv_cons] at this
      omega]
/-- counts of two dice, either way round -/
theorem cnt_two (d e : List Int) : cntF [d, e] = conv (cntT d) e := by
  show conv (conv cnt0 d) e = conv (cntT d) e
  have : conv cnt0 d = cntT d := by
    rw [← show cntF [d] = conv cnt0 d from rfl, ← cnt_throws, throws_one]
  rw [this]
/-- a pair as it is told -/
structure IsPair (g : Int → Int) (many more : Nat) (least : Int) (p : List Int × List Int) : Prop where
  one : p.1.length = many
  other : p.2.length = more
  r1 : Rising p.1
  r2 : Rising p.2
  head : p.1.head? = some least
  zero : ∀ f ∈ p.2, 0 ≤ f
  cnt : cntF [p.1, p.2] = g
theorem pair_snd {g : Int → Int} {many more : Nat} {least : Int} {d e e' : List Int} (h : IsPair g many more least (d, e)) (h' : IsPair g many more least (d, e')) : e = e' := by
  have hm : least ∈ d := List.mem_of_mem_head? h.head
  have hl : ∀ x ∈ d, least ≤ x := fun x hx => by
    have hd := h.head
    have hr := h.r1
    cases d with
    | nil => cases hx
    | cons y r =>
      have e : y = least := Option.some.inj hd
      rcases List.mem_cons.mp hx with c | hx
      · omega
      · have := (List.pairwise_cons.mp hr).1 x hx
        omega
  refine conv_cancel hm hl h.r2 h'.r2 fun s => ?_
  rw [← cnt_two, ← cnt_two]
  exact congrFun (h.cnt.trans h'.cnt.symm) s
/-- by the first die, then by the second one -/
def lxP (p q : List Int × List Int) : Bool := if p.1 = q.1 then lxL p.2 q.2 else lxL p.1 q.1
/-- what is to be told of counts: all pairs, rising -/
structure AllPairs (g : Int → Int) (many more : Nat) (least : Int) (ps : List (List Int × List Int)) : Prop where
  mem : ∀ p, p ∈ ps ↔ IsPair g many more least p
  rise : ps.Pairwise fun p q => lxP p q = true
theorem lxP_irr (p : List Int × List Int) : lxP p p = false := by
  unfold lxP
  rw [if_pos rfl]
  exact lxL_irr _
theorem lxP_trans {p q r : List Int × List Int} (h1 : lxP p q = true) (h2 : lxP q r = true) : lxP p r = true := by
  unfold lxP at *
  by_cases a : p.1 = q.1
  · rw [if_pos a] at h1
    by_cases b : q.1 = r.1
    · rw [if_pos b] at h2
      rw [if_pos (a.trans b)]
      exact lxL_trans h1 h2
    · rw [if_neg b] at h2
      rw [if_neg (by rw [a]; exact b), a]
      exact h2
  · rw [if_neg a] at h1
    by_cases b : q.1 = r.1
    · rw [if_neg (by rw [← b]; exact a), ← b]
      exact h1
    · rw [if_neg b] at h2
      have h3 := lxL_trans h1 h2
      by_cases c : p.1 = r.1
      · rw [c, lxL_irr] at h3
        cases h3
      · rw [if_neg c]
        exact h3
/-- a rising list is told by what is in it -/
theorem rise_uniq {α : Type} {lt : α → α → Bool} (irr : ∀ x, lt x x = false) (tr : ∀ {x y z}, lt x y = true → lt y z = true → lt x z = true) : ∀ {l m : List α}, l.Pairwise (fun x y => lt x y = true) → m.Pairwise (fun x y => lt x y = true) → (∀ x, x ∈ l ↔ x ∈ m) → l = m
  | [], [], _, _, _ => rfl
  | [], y :: r, _, _, h => absurd ((h y).mpr List.mem_cons_self) (by simp)
  | x :: l, [], _, _, h => absurd ((h x).mp List.mem_cons_self) (by simp)
  | x :: l, y :: m, hl, hm, h => by
    obtain ⟨l1, l2⟩ := List.pairwise_cons.mp hl
    obtain ⟨m1, m2⟩ := List.pairwise_cons.mp hm
    have e : x = y := by
      rcases List.mem_cons.mp ((h x).mp List.mem_cons_self) with e | hx
      · exact e
      · rcases List.mem_cons.mp ((h y).mpr List.mem_cons_self) with e | hy
        · exact e.symm
        · have := tr (l1 y hy) (m1 x hx)
          rw [irr] at this
          cases this
    subst e
    rw [rise_uniq irr tr l2 m2 fun z => ?_]
    constructor
    · intro hz
      rcases List.mem_cons.mp ((h z).mp (List.mem_cons_of_mem _ hz)) with e | q
      · have := l1 z hz
        rw [e, irr] at this
        cases this
      · exact q
    · intro hz
      rcases List.mem_cons.mp ((h z).mpr (List.mem_cons_of_mem _ hz)) with e | q
      · have := m1 z hz
        rw [e, irr] at this
        cases this
      · exact q
theorem pairs_one {g : Int → Int} {many more : Nat} {least : Int} {l m : List (List Int × List Int)} (h : AllPairs g many more least l) (h' : AllPairs g many more least m) : l = m :=
  rise_uniq lxP_irr lxP_trans h.rise h'.rise fun p => by rw [h.mem, h'.mem]
/-- faces of the first die: a sum less the least other face -/
theorem pair_face {g : Int → Int} {many more : Nat} {least : Int} {d e : List Int} (h : IsPair g many more least (d, e)) (hm : 1 ≤ more) {x : Int} (hx : x ∈ d) : ∃ e0, e.head? = some e0 ∧ 0 < g (x + e0) ∧ 0 < g (least + e0) ∧ ∀ s, 0 < g s → least + e0 ≤ s := by
  have hl := h.other
  cases e with
  | nil =>
    have : (0 : Nat) = more := hl
    omega
  | cons e0 r =>
    have hc := h.cnt
    have hc2 : conv (cntT d) (e0 :: r) = g := by rw [← cnt_two]; exact hc
    have hm2 : least ∈ d := List.mem_of_mem_head? h.head
    have hll : ∀ x ∈ d, least ≤ x := fun x hx => by
      have hd := h.head
      have hr := h.r1
      cases d with
      | nil => cases hx
      | cons y r =>
        have e : y = least := Option.some.inj hd
        rcases List.mem_cons.mp hx with c | hx
        · omega
        · have := (List.pairwise_cons.mp hr).1 x hx
          omega
    obtain ⟨a, c⟩ := conv_least hm2 hll h.r2
    rw [hc2] at a c
    refine ⟨e0, rfl, ?_, a, c⟩
    rw [← hc2]
    exact conv_pos.mpr ⟨x, hx, e0, List.mem_cons_self, rfl⟩
/-! ### the other die, taken out of the counts face by face -/
theorem conv_append (g : Int → Int) (s : Int) : ∀ a c : List Int, conv g (a ++ c) s = conv g a s + conv g c s
  | [], c => by rw [conv_nil, List.nil_append, Int.zero_add]
  | x :: a, c => by
    rw [List.cons_append, conv_cons, conv_cons, conv_append g s a c]
    omega
/-- the other die as far as it is found: e; what is left: gk -/
structure Oth (g : Int → Int) (d : List Int) (d0 : Int) (more : Nat) (e : List Int) (gk : Int → Int) : Prop where
  eq : ∀ s, gk s = g s - conv (cntT d) e s
  rise : Rising e
  low : ∀ x ∈ e, ∀ s, 0 < gk s → d0 + x ≤ s
  pre : ∀ e', Rising e' → e'.length = more → (∀ s, conv (cntT d) e' s = g s) → ∃ r, e' = e ++ r
theorem oth_start (g : Int → Int) (d : List Int) (d0 : Int) (more : Nat) : Oth g d d0 more [] g where
  eq := fun s => by rw [conv_nil, Int.sub_zero]
  rise := List.Pairwise.nil
  low := fun x h => by cases h
  pre := fun e' _ _ _ => ⟨e', rfl⟩
theorem rising_right {a r : List Int} (h : Rising (a ++ r)) : Rising r := (List.pairwise_append.mp h).2.1
section
variable {g gk : Int → Int} {d e : List Int} {d0 m : Int} {more : Nat}
/-- a whole other die goes on with the face that is next -/
theorem oth_next (O : Oth g d d0 more e gk) (h0 : d0 ∈ d) (hd : ∀ x ∈ d, d0 ≤ x) (hm : 0 < gk m) (hl : ∀ s, 0 < gk s → m ≤ s) {e' : List Int} (hr : Rising e') (hn : e'.length = more) (he : ∀ s, conv (cntT d) e' s = g s) :
    ∃ r, e' = (e ++ [m - d0]) ++ r ∧ ∀ s, gk s = cntT d (s - (m - d0)) + conv (cntT d) r s := by
  obtain ⟨r, hre⟩ := O.pre e' hr hn he
  subst hre
  have hg : ∀ s, gk s = conv (cntT d) r s := fun s => by
    rw [O.eq, ← he s, conv_append]
    omega
  cases r with
  | nil =>
    rw [hg, conv_nil] at hm
    omega
  | cons r0 r =>
    obtain ⟨a, c⟩ := conv_least h0 hd (rising_right hr)
    have c1 := c m (by rw [← hg]; exact hm)
    have c2 := hl _ (by rw [hg]; exact a)
    have e1 : r0 = m - d0 := by omega
    subst e1
    refine ⟨r, by rw [List.append_assoc]; rfl, fun s => ?_⟩
    rw [hg, conv_cons]
/-- where one is missing there is no other die -/
theorem oth_miss (O : Oth g d d0 more e gk) (h0 : d0 ∈ d) (hd : ∀ x ∈ d, d0 ≤ x) (hm : 0 < gk m) (hl : ∀ s, 0 < gk s → m ≤ s) {j : Nat} {own : Int} (hj : d[j]? = some own)
    (no : gk (own + (m - d0)) - cntT (d.take j) own ≤ 0) {e' : List Int} (hr : Rising e') (hn : e'.length = more) (he : ∀ s, conv (cntT d) e' s = g s) : False := by
  obtain ⟨r, _, h⟩ := oth_next O h0 hd hm hl hr hn he
  have h1 := h (own + (m - d0))
  rw [Int.add_sub_cancel] at h1
  have h2 := conv_nonneg d (own + (m - d0)) r
  have h3 : cntT (d.take j) own + 1 ≤ cntT d own := by
    have e1 : d.take (j + 1) = d.take j ++ [own] := take_snoc hj
    have e2 : (d.take (j + 1)).count own ≤ d.count own := (List.take_sublist _ _).count_le _
    rw [e1, List.count_append] at e2
    have e3 : [own].count own = 1 := by simp
    unfold cntT
    omega
  omega
/-- one face more -/
theorem oth_more (O : Oth g d d0 more e gk) (h0 : d0 ∈ d) (hd : ∀ x ∈ d, d0 ≤ x) (hm : 0 < gk m) (hl : ∀ s, 0 < gk s → m ≤ s) : Oth g d d0 more (e ++ [m - d0]) fun s => gk s - cntT d (s - (m - d0)) where
  eq := fun s => by
    rw [O.eq, conv_append, conv_cons, conv_nil]
    omega
  rise := by
    refine List.pairwise_append.mpr ⟨O.rise, List.pairwise_singleton _ _, fun x hx y hy => ?_⟩
    rw [List.mem_singleton.mp hy]
    have := O.low x hx m hm
    omega
  low := fun x hx s hs => by
    have hs2 : 0 < gk s - cntT d (s - (m - d0)) := hs
    have h2 := cntT_nonneg d (s - (m - d0))
    have h3 : 0 < gk s := by omega
    rcases List.mem_append.mp hx with hx | hx
    · exact O.low x hx s h3
    · rw [List.mem_singleton.mp hx]
      have := hl s h3
      omega
  pre := fun e' hr hn he => by
    obtain ⟨r, h, _⟩ := oth_next O h0 hd hm hl hr hn he
    exact ⟨r, h⟩
/-- nothing left, as many faces as are asked: this is the one -/
theorem oth_done (O : Oth g d d0 more e gk) (hz : ∀ s, gk s = 0) : ∀ s, conv (cntT d) e s = g s := fun s => by
  have := O.eq s
  rw [hz] at this
  omega
/-- nothing left, too few faces: there is none -/
theorem oth_few (O : Oth g d d0 more e gk) (h0 : d0 ∈ d) (hd : ∀ x ∈ d, d0 ≤ x) (hz : ∀ s, gk s = 0) (hf : e.length < more) {e' : List Int} (hr : Rising e') (hn : e'.length = more) (he : ∀ s, conv (cntT d) e' s = g s) : False := by
  obtain ⟨r, hre⟩ := O.pre e' hr hn he
  subst hre
  cases r with
  | nil =>
    rw [List.append_nil] at hn
    omega
  | cons r0 r =>
    obtain ⟨a, _⟩ := conv_least h0 hd (rising_right hr)
    have := he (d0 + r0)
    rw [conv_append] at this
    have e2 := O.eq (d0 + r0)
    rw [hz] at e2
    omega
/-- something left, no more faces: there is none -/
theorem oth_left (O : Oth g d d0 more e gk) (hm : 0 < gk m) (hf : e.length = more) {e' : List Int} (hr : Rising e') (hn : e'.length = more) (he : ∀ s, conv (cntT d) e' s = g s) : False := by
  obtain ⟨r, hre⟩ := O.pre e' hr hn he
  subst hre
  have hr0 : r = [] := by
    rw [List.length_append] at hn
    exact List.eq_nil_of_length_eq_zero (by omega)
  subst hr0
  have := he m
  rw [List.append_nil] at this
  have e2 := O.eq m
  omega
end
/-! ### one taken out of a dictionary of counts -/
theorem tells_key {m : List (Int × Int)} {g : Int → Int} (T : Tells m g) (hg : ∀ s, 0 ≤ g s) (k : Int) : k ∈ m.map (·.1) ↔ 0 < g k := by
  constructor
  · intro h
    obtain ⟨p, hp, e⟩ := List.mem_map.mp h
    have h1 := look_mem T.nd hp
    have h2 := T.pos p hp
    rw [T.look] at h1
    have e' : p.1 = k := e
    rw [e'] at h1
    omega
  · intro h
    have : lookI m k ≠ 0 := by
      rw [T.look]
      omega
    exact List.mem_map.mpr ⟨_, look_ne_mem this, rfl⟩
theorem look_filter (k j : Int) : ∀ m : List (Int × Int), lookI (m.filter fun p => decide (p.1 ≠ k)) j = if j = k then 0 else lookI m j
  | [] => by
    show (0 : Int) = if j = k then 0 else 0
    split <;> rfl
  | p :: r => by
    have ih := look_filter k j r
    rw [List.filter_cons]
    by_cases c : p.1 = k
    · rw [if_neg (by rw [decide_eq_true_eq]; exact fun z => z c), ih]
      by_cases e : j = k
      · rw [if_pos e, if_pos e]
      · rw [if_neg e, if_neg e]
        show lookI r j = if p.1 = j then p.2 else lookI r j
        rw [if_neg fun z => e (by rw [← z]; exact c)]
    · rw [if_pos (decide_eq_true c)]
      show (if p.1 = j then p.2 else lookI (r.filter fun p => decide (p.1 ≠ k)) j) = if j = k then 0 else (if p.1 = j then p.2 else lookI r j)
      rw [ih]
      by_cases e : j = k
      · rw [if_pos e, if_pos e, if_neg fun z => c (by rw [z]; exact e)]
      · rw [if_neg e, if_neg e]
def less1 (g : Int → Int) (k : Int) : Int → Int := fun s => g s - if s = k then 1 else 0
/-- one less, still some -/
theorem tells_less {m : List (Int × Int)} {g : Int → Int} {k : Int} (T : Tells m g) (h : 1 < g k) : Tells (putI m k (g k - 1)) (less1 g k) where
  nd := nodup_put _ _ T.nd
  look := fun s => by
    rw [look_put, T.look]
    unfold less1
    by_cases e : s = k
    · rw [if_pos e, if_pos e, e]
    · rw [if_neg e, if_neg e, Int.sub_zero]
  pos := pos_put (by omega) T.pos
/-- the last one -/
theorem tells_last {m : List (Int × Int)} {g : Int → Int} {k v : Int} (T : Tells m g) (h : g k = 1) : Tells ((putI m k v).filter fun p => decide (p.1 ≠ k)) (less1 g k) where
  nd := (nodup_put k v T.nd).sublist ((List.filter_sublist (l := putI m k v)).map _)
  look := fun s => by
    rw [look_filter, look_put, T.look]
    unfold less1
    by_cases e : s = k
    · rw [if_pos e, if_pos e, e, h]
      rfl
    · rw [if_neg e, if_neg e, if_neg e, Int.sub_zero]
  pos := fun p hp => by
    obtain ⟨h1, h2⟩ := List.mem_filter.mp hp
    have hk : p.1 ≠ k := of_decide_eq_true h2
    have e := look_mem (nodup_put k v T.nd) h1
    rw [look_put, if_neg hk] at e
    have : p ∈ m := by
      by_cases z : lookI m p.1 = 0
      · unfold putI at h1
        split at h1
        · obtain ⟨q, hq, eq⟩ := List.mem_map.mp h1
          by_cases c : q.1 = k
          · rw [if_pos c] at eq
            exact absurd (by rw [← eq]; exact c) hk
          · rw [if_neg c] at eq
            rw [← eq]
            exact hq
        · rcases List.mem_append.mp h1 with q | q
          · exact q
          · have := List.mem_singleton.mp q
            exact absurd (by rw [this]) hk
      · have := look_ne_mem z
        rw [e] at this
        exact this
    exact T.pos p this
/-! ### all rising rows of so many of some faces -/
def rowsOf (faces : List Int) : Nat → List (List Int)
  | 0 => [[]]
  | k + 1 => (rowsOf faces k).flatMap fun row => (faces.filter fun f => row.isEmpty || decide (row.getLastD 0 ≤ f)).map fun f => row ++ [f]
theorem last_is {p : List Int} {x : Int} (h : p.getLast? = some x) : p.getLastD 0 = x := by
  rcases List.eq_nil_or_concat p with e | ⟨l, y, e⟩
  · rw [e] at h
    cases h
  · rw [e, List.concat_eq_append] at h ⊢
    rw [List.getLast?_append] at h
    have : y = x := Option.some.inj h
    rw [← this]
    simp
theorem rising_snoc {row : List Int} {f : Int} : Rising (row ++ [f]) ↔ Rising row ∧ (row = [] ∨ row.getLastD 0 ≤ f) := by
  unfold Rising
  rw [List.pairwise_append]
  constructor
  · rintro ⟨h1, _, h3⟩
    refine ⟨h1, ?_⟩
    cases h : row.getLast? with
    | none => exact .inl (List.getLast?_eq_none_iff.mp h)
    | some x =>
      rw [last_is h]
      exact .inr (h3 x (List.mem_of_getLast? h) f (List.mem_singleton.mpr rfl))
  · rintro ⟨h1, h2⟩
    refine ⟨h1, List.pairwise_singleton _ _, fun x hx y hy => ?_⟩
    rw [List.mem_singleton.mp hy]
    rcases h2 with h2 | h2
    · rw [h2] at hx
      cases hx
    · rcases List.eq_nil_or_concat row with e | ⟨l, z, e⟩
      · rw [e] at hx
        cases hx
      · rw [List.concat_eq_append] at e
        subst e
        have hz : (l ++ [z]).getLastD 0 = z := by simp
        rw [hz] at h2
        rcases List.mem_append.mp hx with hx | hx
        · have := (List.pairwise_append.mp h1).2.2 x hx z (List.mem_singleton.mpr rfl)
          omega
        · rw [List.mem_singleton.mp hx]
          exact h2
theorem rowsOf_mem {faces : List Int} : ∀ {k : Nat} {p : List Int}, p ∈ rowsOf faces k ↔ p.length = k ∧ Rising p ∧ ∀ x ∈ p, x ∈ faces
  | 0, p => by
    unfold rowsOf
    rw [List.mem_singleton]
    constructor
    · intro h
      subst h
      exact ⟨rfl, List.Pairwise.nil, fun x hx => by cases hx⟩
    · rintro ⟨h, _⟩
      exact List.eq_nil_of_length_eq_zero h
  | k + 1, p => by
    unfold rowsOf
    rw [List.mem_flatMap]
    constructor
    · rintro ⟨row, hr, hp⟩
      obtain ⟨f, hf, rfl⟩ := List.mem_map.mp hp
      obtain ⟨hf1, hf2⟩ := List.mem_filter.mp hf
      obtain ⟨a, c, d⟩ := rowsOf_mem.mp hr
      rw [Bool.or_eq_true, List.isEmpty_iff, decide_eq_true_eq] at hf2
      refine ⟨by rw [List.length_append, a]; rfl, rising_snoc.mpr ⟨c, hf2⟩, fun x hx => ?_⟩
      rcases List.mem_append.mp hx with hx | hx
      · exact d x hx
      · rw [List.mem_singleton.mp hx]
        exact hf1
    · rintro ⟨a, c, d⟩
      rcases List.eq_nil_or_concat p with e | ⟨row, f, e⟩
      · rw [e] at a
        cases a
      · rw [List.concat_eq_append] at e
        subst e
        obtain ⟨c1, c2⟩ := rising_snoc.mp c
        have hl : row.length = k := by
          rw [List.length_append] at a
          have : row.length + 1 = k + 1 := a
          omega
        exact ⟨row, rowsOf_mem.mpr ⟨hl, c1, fun x hx => d x (List.mem_append_left _ hx)⟩, List.mem_map.mpr ⟨f, List.mem_filter.mpr ⟨d f (List.mem_append_right _ (List.mem_singleton.mpr rfl)), by
          rw [Bool.or_eq_true, List.isEmpty_iff, decide_eq_true_eq]
          exact c2⟩, rfl⟩⟩
/-- no row twice -/
theorem rowsOf_nodup {faces : List Int} (hn : faces.Nodup) : ∀ k, (rowsOf faces k).Nodup
  | 0 => List.nodup_cons.mpr ⟨by simp, List.nodup_nil⟩
  | k + 1 => by
    have ih := rowsOf_nodup hn k
    unfold rowsOf
    generalize rowsOf faces k = rows at *
    induction rows with
    | nil => exact List.nodup_nil
    | cons row rest ihr =>
      obtain ⟨h1, h2⟩ := List.nodup_cons.mp ih
      rw [List.flatMap_cons, List.nodup_append]
      refine ⟨?_, ihr h2, fun x hx y hy => ?_⟩
      · have hf : (faces.filter fun f => row.isEmpty || decide (row.getLastD 0 ≤ f)).Nodup := hn.sublist List.filter_sublist
        generalize faces.filter (fun f => row.isEmpty || decide (row.getLastD 0 ≤ f)) = fs at *
        induction fs with
        | nil => exact List.nodup_nil
        | cons f fs ihf =>
          obtain ⟨a, c⟩ := List.nodup_cons.mp hf
          rw [List.map_cons, List.nodup_cons]
          refine ⟨fun z => ?_, ihf c⟩
          obtain ⟨f', hf', e⟩ := List.mem_map.mp z
          have := (List.append_inj e rfl).2
          have e2 : f' = f := (List.cons.inj this).1
          exact a (e2 ▸ hf')
      · obtain ⟨f, _, rfl⟩ := List.mem_map.mp hx
        obtain ⟨row', hr', hy'⟩ := List.mem_flatMap.mp hy
        obtain ⟨f', _, rfl⟩ := List.mem_map.mp hy'
        intro e
        have hl : row.length = row'.length := by
          have := congrArg List.length e
          rw [List.length_append, List.length_append] at this
          have t : row.length + 1 = row'.length + 1 := this
          omega
        have := (List.append_inj e hl).1
        exact h1 (this ▸ hr')
/-- the law's list of all pairs, each first die with its one other die -/
theorem due_all {g : Int → Int} {many more : Nat} {least : Int} {faces : List Int} {found ps : List (List Int × List Int)} (hmany : 1 ≤ many)
    (hfaces : ∀ p, IsPair g many more least p → ∀ x ∈ p.1, x ∈ faces) (hleast : ∀ x ∈ faces, least ≤ x)
    (hf : ∀ p, p ∈ found ↔ ∃ rest ∈ rowsOf faces (many - 1), p.1 = least :: rest ∧ IsPair g many more least p)
    (hp : ps.Perm found) (hr : ps.Pairwise fun x y => lxP y x = false) (hn : found.Nodup) : AllPairs g many more least ps where
  mem := fun p => by
    rw [hp.mem_iff, hf]
    constructor
    · rintro ⟨_, _, _, h⟩
      exact h
    · intro h
      have hh := h.head
      have ho := h.one
      have h1 := h.r1
      have hx := hfaces p h
      obtain ⟨d, e⟩ := p
      cases d with
      | nil => cases hh
      | cons x rest =>
        have e1 : x = least := Option.some.inj hh
        subst e1
        refine ⟨rest, rowsOf_mem.mpr ⟨?_, (List.pairwise_cons.mp h1).2, fun y hy => hx y (List.mem_cons_of_mem _ hy)⟩, rfl, h⟩
        have : rest.length + 1 = many := ho
        omega
  rise := by
    have hn2 : ps.Nodup := hp.nodup_iff.mpr hn
    have hn3 : ps.Pairwise fun x y => x ≠ y := hn2
    refine (hr.and hn3).imp fun {x y} h => ?_
    cases c : lxP x y with
    | true => rfl
    | false =>
      exfalso
      obtain ⟨h1, h2⟩ := h
      unfold lxP at h1 c
      by_cases e : x.1 = y.1
      · rw [if_pos e] at c
        rw [if_pos e.symm] at h1
        exact h2 (Prod.ext e (lxL_total c h1))
      · rw [if_neg e] at c
        rw [if_neg fun z => e z.symm] at h1
        exact e (lxL_total c h1)
end My

/-! sorted of a list of objects that hold data with an order (tuples of tuples, too): the very objects, in that order. -/
namespace My
open PySem PySem.Spec PyProof.Rows L2
section
open PySem.W (Datum DatumOrd Tup)
variable {α : Type} [DecidableEq α] [DatumOrd α] {K : PySem.W.Frag} {H : Hp}
/-- the order, as a total one -/
structure Ordered (α : Type) [DecidableEq α] [DatumOrd α] : Prop where
  tr : ∀ a b c : α, DatumOrd.lt b a = false → DatumOrd.lt c b = false → DatumOrd.lt c a = false
  tot : ∀ a b : α, DatumOrd.lt a b = false ∨ DatumOrd.lt b a = false
def rSortedD (α : Type) [DecidableEq α] [DatumOrd α] (K : PySem.W.Frag) : List V → Hp → VK → Prop := fun vs H Q => ∃ (a : Addr) (ks : List (Addr × α)), vs = [.ref a] ∧ SqL K H a (ks.map fun k => V.ref k.1) ∧ (∀ k ∈ ks, Is K H (.ref k.1) k.2) ∧ Ordered α ∧ Datum.depth α ≤ 60 ∧
  ((∀ x : α, ∃ y r, Datum.toD x = .tuple (y :: r)) ∨ ∀ x : α, Datum.toD x ≠ .none ∧ ∀ xs, Datum.toD x ≠ .tuple xs) ∧
  ∀ (ks' : List (Addr × α)) (p : Addr), ks'.Perm ks → ks'.Pairwise (fun x y => DatumOrd.lt y.2 x.2 = false) → H p = none → Q (.ref p) (upd H p (.lst (ks'.map fun k => V.ref k.1)))
theorem refs_us : ∀ {ks : List (Addr × α)} {us : List Value}, Vals (ks.map fun k => V.ref k.1) us → PySem.W.EachIs (fun v (k : Addr × α) => v = Value.ref k.1) us ks
  | [], _, r => by
    cases r
    exact .nil
  | k :: ks, _, r => by
    cases r with
    | cons r t =>
      cases r
      exact .cons rfl (refs_us t)
theorem us_refs : ∀ {ks : List (Addr × α)} {us : List Value}, PySem.W.EachIs (fun v (k : Addr × α) => v = Value.ref k.1) us ks → Vals (ks.map fun k => V.ref k.1) us
  | _, _, .nil => .nil
  | _, _, .cons r t => by
    subst r
    exact .cons rfl (us_refs t)
theorem each_reads {X : Cx} {pins : List (Addr × Obj)} {σ : L2.St} {H : Hp} {s : Shared} (I : Inv X pins σ H s) : ∀ {ks : List (Addr × α)} {us : List Value}, (∀ k ∈ ks, Is X.K H (.ref k.1) k.2) → Vals (ks.map fun k => V.ref k.1) us → PySem.W.EachIs (fun v (k : Addr × α) => ∃ as, Reads s.heap v (Datum.toD k.2) as) us ks
  | [], _, _, r => by
    cases r
    exact .nil
  | k :: ks, _, h, r => by
    cases r with
    | cons r t => exact .cons (Dp.reads I _ _ _ (h k List.mem_cons_self) r) (each_reads I (fun x hx => h x (List.mem_cons_of_mem _ hx)) t)
theorem cr_sortedD {X : Cx} (hu : X.A.units + 64 < cLine) : CallR X (.builtin "sorted") (rSortedD α X.K) := by
  intro pins s σ H vs us Q I r h
  obtain ⟨a, ks, rfl, hs, hk, O, hdep, hso, q⟩ := h
  obtain ⟨its, rv, hl, hz⟩ := I.list hs
  rw [Vals.ref1 r]
  have hlen : ks.length ≤ sizeLine := by
    rw [List.length_map] at hz
    exact hz
  refine PySem.W.sorted_data (R := fun v (k : Addr × α) => v = Value.ref k.1) (enc := fun k : Addr × α => Datum.toD k.2) (vs := its) (bs := ks) hl.isList (refs_us rv) (each_reads I hk rv) (PySem.W.AllAlike.of fun x y => DatumOrd.alike x.2 y.2) ?_ hlen (fun k _ => ?_) fun out h1 h2 => ?_
  · rcases hso with h | h
    · exact PySem.W.Sortable.tuples fun k => h k.2
    · exact PySem.W.Sortable.others fun k => h k.2
  · have := Datum.depth_le k.2
    omega
  · have hv := us_refs h2
    obtain ⟨ep, he⟩ := PyProof.Rows.sortedAll_at s.heap its out.toArray
    have hle : (PySem.W.dataLe false fun k : Addr × α => Datum.toD k.2) = fun x y => !DatumOrd.lt y.2 x.2 := by
      rw [PySem.W.dataLe_eq]
      funext x y
      show (!PySem.W.dataLt (Datum.toD y.2) (Datum.toD x.2)) = _
      rw [DatumOrd.lt_eq]
    have hp : (ks.mergeSort (PySem.W.dataLe false fun k : Addr × α => Datum.toD k.2)).Perm ks := List.mergeSort_perm _ _
    have hw : (ks.mergeSort (PySem.W.dataLe false fun k : Addr × α => Datum.toD k.2)).Pairwise (fun x y => DatumOrd.lt y.2 x.2 = false) := by
      rw [hle]
      refine (List.pairwise_mergeSort (le := fun x y : Addr × α => !DatumOrd.lt y.2 x.2) (fun x y z h1 h2 => ?_) (fun x y => ?_) ks).imp fun h => ?_
      · rw [Bool.not_eq_true'] at h1 h2 ⊢
        exact O.tr _ _ _ h1 h2
      · rcases O.tot x.2 y.2 with h | h
        · rw [h, Bool.not_false, Bool.or_true]
        · rw [h, Bool.not_false, Bool.true_or]
      · rw [Bool.not_eq_true'] at h
        exact h
    generalize ks.mergeSort (PySem.W.dataLe false fun k : Addr × α => Datum.toD k.2) = ks' at *
    refine ⟨.ref _, upd H (s.heap.objs.size + 1) (.lst (ks'.map fun k => V.ref k.1)), I.laid (t' := s.toks) (fun _ _ => PyProof.Rows.sortedAll_old) (Nat.le_succ _) ⟨?_, out, ep, hv, he⟩, rfl, q _ _ hp hw (I.hok.fresh (Nat.le_succ _))⟩
    rw [List.length_map, hp.length_eq]
    exact hlen
end
/-! ### pairs of dice as tuples of tuples -/
open PySem.W (Tup)
theorem ltT_is (a b : Tup Int) : PySem.W.DatumOrd.lt a b = lxL a.items b.items := lxL_is a.items b.items
theorem ltP_is (p q : Tup Int × Tup Int) : PySem.W.DatumOrd.lt p q = lxP (p.1.items, p.2.items) (q.1.items, q.2.items) := by
  show (if p.1 = q.1 then PySem.W.DatumOrd.lt p.2 q.2 else PySem.W.DatumOrd.lt p.1 q.1) = _
  unfold lxP
  by_cases h : p.1 = q.1
  · rw [if_pos h, if_pos (congrArg Tup.items h), ltT_is]
  · rw [if_neg h, if_neg fun z => h (by
      obtain ⟨⟨x⟩, y⟩ := p
      obtain ⟨⟨u⟩, v⟩ := q
      exact congrArg Tup.mk z), ltT_is]
theorem lxP_total {p q : List Int × List Int} (h1 : lxP p q = false) (h2 : lxP q p = false) : p = q := by
  unfold lxP at h1 h2
  by_cases c : p.1 = q.1
  · rw [if_pos c] at h1
    rw [if_pos c.symm] at h2
    have := lxL_total h1 h2
    exact Prod.ext c this
  · rw [if_neg c] at h1
    rw [if_neg fun z => c z.symm] at h2
    exact absurd (lxL_total h1 h2) c
theorem ordered_pairs : Ordered (Tup Int × Tup Int) where
  tr := fun a b c h1 h2 => by
    rw [ltP_is] at h1 h2 ⊢
    generalize (a.1.items, a.2.items) = x at *
    generalize (b.1.items, b.2.items) = y at *
    generalize (c.1.items, c.2.items) = z at *
    cases h : lxP z x with
    | false => rfl
    | true =>
      by_cases e : lxP x y = true
      · rw [lxP_trans h e] at h2
        cases h2
      · have : x = y := lxP_total (Bool.eq_false_iff.mpr e) h1
        rw [← this, h] at h2
        cases h2
  tot := fun a b => by
    rw [ltP_is, ltP_is]
    generalize (a.1.items, a.2.items) = x at *
    generalize (b.1.items, b.2.items) = y at *
    cases h : lxP x y with
    | false => exact .inl rfl
    | true =>
      right
      cases h2 : lxP y x with
      | false => rfl
      | true =>
        have := lxP_trans h h2
        rw [lxP_irr] at this
        cases this
end My

/-! A dict whose keys are pairs of dice (tuples of two tuples of whole numbers), told by its entries. -/
namespace My
open PySem PySem.Spec PyProof.Rows L2
abbrev Pr := List Int × List Int
/-- an entry: the key's address, the pair, the value's address -/
abbrev Ent := Addr × Pr × Addr
def nkL (l : List Int) : NestedKey := .tup (l.map NestedKey.num)
def nkP (p : Pr) : NestedKey := .tup [nkL p.1, nkL p.2]
theorem nums_inj : ∀ {l m : List Int}, l.map NestedKey.num = m.map NestedKey.num → l = m
  | [], [], _ => rfl
  | [], _ :: _, h => by simp at h
  | _ :: _, [], h => by simp at h
  | x :: l, y :: m, h => by
    rw [List.map_cons, List.map_cons] at h
    injection h with h1 h2
    injection h1 with h1
    rw [h1, nums_inj h2]
theorem nkL_inj : ∀ {l m : List Int}, nkL l = nkL m → l = m := by
  intro l m h
  have h1 : l.map NestedKey.num = m.map NestedKey.num := by
    injection h
  exact nums_inj h1
theorem nkP_inj {p q : Pr} (h : nkP p = nkP q) : p = q := by
  have h1 : [nkL p.1, nkL p.2] = [nkL q.1, nkL q.2] := by injection h
  have h2 : nkL p.1 = nkL q.1 := by injection h1
  have h3 : [nkL p.2] = [nkL q.2] := by injection h1
  have h4 : nkL p.2 = nkL q.2 := by injection h3
  exact Prod.ext (nkL_inj h2) (nkL_inj h4)
theorem nkL_depth : ∀ l : List Int, NestedKey.depthAll (l.map NestedKey.num) = 0
  | [] => rfl
  | x :: l => by
    rw [List.map_cons, NestedKey.depthAll, NestedKey.depth, nkL_depth l]
    rfl
theorem nkP_depth (p : Pr) : (nkP p).depth ≤ 8 := by
  show NestedKey.depthAll [nkL p.1, nkL p.2] + 1 ≤ 8
  unfold nkL
  rw [NestedKey.depthAll, NestedKey.depthAll, NestedKey.depthAll, NestedKey.depth, NestedKey.depth, nkL_depth, nkL_depth]
  decide
def rawE (x : Ent) : NestedKey × Addr × Value := (nkP x.2.1, x.1, .ref x.2.2)
/-- where p stands its value is put anew, else behind -/
def putE (xs : List Ent) (t : Addr) (p : Pr) (v : Addr) : List Ent :=
  if p ∈ xs.map (·.2.1) then xs.map (fun x => if x.2.1 = p then (x.1, x.2.1, v) else x) else xs ++ [(t, p, v)]
theorem putE_new {xs : List Ent} {t v : Addr} {p : Pr} (h : p ∉ xs.map (·.2.1)) : putE xs t p v = xs ++ [(t, p, v)] := if_neg h
theorem putE_len (xs : List Ent) (t : Addr) (p : Pr) (v : Addr) : (putE xs t p v).length ≤ xs.length + 1 := by
  unfold putE
  split
  · rw [List.length_map]
    omega
  · rw [List.length_append]
    exact Nat.le_refl _
theorem putE_keys (xs : List Ent) (t : Addr) (p : Pr) (v : Addr) : (putE xs t p v).map (·.2.1) = if p ∈ xs.map (·.2.1) then xs.map (·.2.1) else xs.map (·.2.1) ++ [p] := by
  unfold putE
  split
  · rw [List.map_map]
    refine List.map_congr_left fun x _ => ?_
    show (if x.2.1 = p then (x.1, x.2.1, v) else x).2.1 = x.2.1
    split <;> rfl
  · rw [List.map_append]
    rfl
theorem putE_nodup {xs : List Ent} {t v : Addr} {p : Pr} (h : (xs.map (·.2.1)).Nodup) : ((putE xs t p v).map (·.2.1)).Nodup := by
  rw [putE_keys]
  split
  · exact h
  · rename_i c
    exact List.nodup_append.mpr ⟨h, by simp, fun a ha b hb e => c (by
      rw [← List.mem_singleton.mp hb, ← e]
      exact ha)⟩
theorem atKey_raw (xs : List Ent) (p : Pr) : (atKey (xs.map rawE) (nkP p)).isSome = true ↔ p ∈ xs.map (·.2.1) := by
  unfold atKey
  rw [Option.isSome_map, List.find?_isSome]
  constructor
  · rintro ⟨x, hx, e⟩
    obtain ⟨y, hy, rfl⟩ := List.mem_map.mp hx
    exact List.mem_map.mpr ⟨y, hy, nkP_inj (of_decide_eq_true e)⟩
  · intro h
    obtain ⟨y, hy, e⟩ := List.mem_map.mp h
    exact ⟨rawE y, List.mem_map.mpr ⟨y, hy, rfl⟩, decide_eq_true (congrArg nkP e)⟩
theorem stored_raw (xs : List Ent) (t : Addr) (p : Pr) (v : Addr) : storedH (xs.map rawE) (nkP p) t (.ref v) = (putE xs t p v).map rawE := by
  unfold storedH putE
  by_cases c : p ∈ xs.map (·.2.1)
  · rw [if_pos ((atKey_raw xs p).mpr c), if_pos c, List.map_map, List.map_map]
    refine List.map_congr_left fun x _ => ?_
    show putAt (nkP p) (.ref v) (rawE x) = rawE (if x.2.1 = p then (x.1, x.2.1, v) else x)
    unfold putAt
    by_cases e : x.2.1 = p
    · rw [if_pos e, if_pos (show (rawE x).1 = nkP p from congrArg nkP e)]
      rfl
    · rw [if_neg e, if_neg (show ¬ (rawE x).1 = nkP p from fun z => e (nkP_inj z))]
  · rw [if_neg (fun z => c ((atKey_raw xs p).mp z)), if_neg c, List.map_append]
    rfl
/-- the dict as its one object tells it -/
def NdR (P : Program) (w : World) (h : Heap) (d : Addr) (xs : List Ent) : Prop :=
  xs.length ≤ sizeLine ∧ (d == sysModules) = false ∧ (xs.map (·.2.1)).Nodup ∧ ∃ o es ep, h.get? d = some o ∧ o.ExactDict ∧ o.data = .dict es ep ∧ es.toList = (xs.map rawE).map (entryOfKey (nestedKind P w))
def NdO (P : Program) (w : World) (d : Addr) (xs : List Ent) : HO := .ext fun h => NdR P w h d xs
/-- a pair of dice in the heap -/
def PairAt (H : Hp) (t : Addr) (p : Pr) : Prop := ∃ a b, H t = some (.tup [.ref a, .ref b]) ∧ H a = some (.tup (p.1.map V.int)) ∧ H b = some (.tup (p.2.map V.int))
theorem PairAt.keeps {H H' : Hp} {t : Addr} {p : Pr} (h : PairAt H t p) (k : ∀ b xs, H b = some (.tup xs) → H' b = some (.tup xs)) : PairAt H' t p :=
  let ⟨a, b, h1, h2, h3⟩ := h
  ⟨a, b, k _ _ h1, k _ _ h2, k _ _ h3⟩
section
variable {X : Cx} {pins : List (Addr × Obj)} {σ : L2.St} {H : Hp} {s : Shared} {d t v : Addr} {p : Pr} {xs : List Ent}
theorem ndO_new {P : Program} {w : World} {h : Heap} (R : NdR P w h d xs) : ObjOk P w H h d (NdO P w d xs) := by
  have ⟨_, _, _, o, _, _, ho, _⟩ := R
  refine ⟨R, ⟨o, ho⟩, fun h1 h2 q k => ?_⟩
  obtain ⟨a, b, c, o, es, ep, ho, r⟩ := q
  exact ⟨a, b, c, o, es, ep, k _ ho, r⟩
theorem ndO_get (I : Inv X pins σ H s) (e : H d = some (NdO X.prog X.w d xs)) : NdR X.prog X.w s.heap d xs := (I.hok d _ e).1
theorem nums_nested {h : Heap} : ∀ {l : List Int} {us : List Value}, Vals (l.map V.int) us → NestedAll h (l.map NestedKey.num) us
  | [], _, r => by
    cases r
    exact .nil
  | x :: l, _, r => by
    cases r with
    | cons r t =>
      obtain ⟨tk, rfl⟩ := r
      exact .cons (.int _ _) (nums_nested t)
theorem row_nested (I : Inv X pins σ H s) {l : List Int} (e : H t = some (.tup (l.map V.int))) : NestedIs s.heap (nkL l) (.ref t) := by
  obtain ⟨_, us, r, o, h1, h2, n, h3⟩ := (show ObjOk X.prog X.w H s.heap t (.tup (l.map V.int)) from I.hok t _ e)
  exact .tup h1 h2 h3 (by simpa using nums_nested r)
theorem pair_nested (I : Inv X pins σ H s) (e : PairAt H t p) : (nestedKind X.prog X.w).is s.heap (nkP p) t := by
  obtain ⟨a, b, h0, ha, hb⟩ := e
  refine ⟨?_, nkP_depth p⟩
  obtain ⟨_, us, r, o, h1, h2, n, h3⟩ := (show ObjOk X.prog X.w H s.heap t (.tup [.ref a, .ref b]) from I.hok t _ h0)
  cases r with
  | cons r1 r =>
    cases r with
    | cons r2 r =>
      cases r
      obtain rfl := r1
      obtain rfl := r2
      exact .tup h1 h2 h3 (.cons (row_nested I ha) (.cons (row_nested I hb) .nil))
/-- all keys are pairs of dice -/
def Keyed (H : Hp) (xs : List Ent) : Prop := ∀ x ∈ xs, PairAt H x.1 x.2.1
theorem Keyed.keeps {H H' : Hp} {xs : List Ent} (h : Keyed H xs) (k : ∀ b ys, H b = some (.tup ys) → H' b = some (.tup ys)) : Keyed H' xs := fun x hx => (h x hx).keeps k
theorem nd_dict (I : Inv X pins σ H s) (e : H d = some (NdO X.prog X.w d xs)) (k : Keyed H xs) : s.heap.DictOfH (nestedKind X.prog X.w) d (xs.map rawE) := by
  obtain ⟨_, _, hn, o, es, ep, ho, hx, hd, he⟩ := ndO_get I e
  refine ⟨o, es, ep, ho, hx, hd, he, fun x hx => ?_, ?_⟩
  · obtain ⟨y, hy, rfl⟩ := List.mem_map.mp hx
    exact pair_nested I (k y hy)
  · rw [List.map_map]
    have : (xs.map (·.2.1)).map nkP = xs.map ((·.1) ∘ rawE) := by
      rw [List.map_map]
      rfl
    rw [← this]
    exact List.Pairwise.map nkP (fun a b h z => h (nkP_inj z)) hn
theorem nd_of {P : Program} {w : World} {h : Heap} (hd : h.DictOfH (nestedKind P w) d (xs.map rawE)) (hz : xs.length ≤ sizeLine) (hs : (d == sysModules) = false) (hn : (xs.map (·.2.1)).Nodup) : NdR P w h d xs := by
  obtain ⟨o, es, ep, ho, hx, hdt, he, _⟩ := hd
  exact ⟨hz, hs, hn, o, es, ep, ho, hx, hdt, he⟩
end
/-! ### {} -/
def tNNew (P : Program) (w : World) : TE := fun _ H Q => ∀ d, H d = none → Q (.ref d) (upd H d (NdO P w d []))
theorem nd_empty {P : Program} {w : World} {H : Hp} (h : Heap) (hb : sysModules < h.objs.size) : ObjOk P w H (h.push { cls := .type "dict", data := .dict #[] }) h.objs.size (NdO P w h.objs.size []) :=
  ndO_new ⟨Nat.zero_le _, beq_eq_false_iff_ne.mpr (Ne.symm (Nat.ne_of_lt hb)), List.nodup_nil, _, #[], 0, Heap.get?_push_size _ rfl, ⟨rfl, rfl, rfl⟩, rfl, rfl⟩
section
variable {X : Cx} {pos : Pos}
theorem pe_nnew : PE X (.Dict [] [] pos) (tNNew X.prog X.w) := by
  refine ⟨fun pins s σ H Q I h => wpAny_Dict_empty ?_⟩
  have hn := I.hok.fresh (Nat.le_refl s.heap.objs.size)
  exact ⟨.ref s.heap.objs.size, _, I.laid (t' := s.toks) (fun _ _ q => Heap.get?_push_of_some _ q) (Nat.le_refl _) (nd_empty s.heap I.big), rfl, h _ hn⟩
end
/-! ### d[pair] = value -/
def sNPut (P : Program) (w : World) (td ty tv : TE) : TS := fun D σ H => tv σ H fun x H1 => td σ H1 fun y H2 => ty σ H2 fun z H3 => ∃ (v d t : Addr) (p : Pr) (xs : List Ent), x = .ref v ∧ y = .ref d ∧ z = .ref t ∧ H3 d = some (NdO P w d xs) ∧ Keyed H3 xs ∧ PairAt H3 t p ∧
  xs.length < sizeLine ∧ D.nx σ (upd H3 d (NdO P w d (putE xs t p v)))
section
variable {X : Cx} {o i value : Expr} {td ty tv : TE} {pos pos' : Pos} {pins : List (Addr × Obj)} {σ : L2.St} {H : Hp} {s : Shared} {d t v : Addr} {p : Pr} {xs : List Ent}
theorem nd_write {h' : Heap} {t' : Nat} {ys : List Ent} (I : Inv X pins σ H s) (e : H d = some (NdO X.prog X.w d xs)) (hs : Heap.SameBut d s.heap h') (R : NdR X.prog X.w h' d ys) : Inv X pins σ (upd H d (NdO X.prog X.w d ys)) { s with heap := h', toks := t' } := by
  have ⟨_, _, _, q, _, _, hq, _⟩ := R
  exact d_write I (by rw [e]; exact True.intro) hs ⟨q, hq⟩ (ndO_new R)
theorem ps_nput (hu : X.A.units + 64 < cLine) (ho : PE X o td) (hi : PE X i ty) (hv : PE X value tv) (hs : swapsWith value (some (.Subscript o i pos')) pos.line X.env = pure false) :
    PS X (.Assign [.Subscript o i pos'] value pos) (sNPut X.prog X.w td ty tv) := by
  refine ⟨fun pins s σ H D I h => ?_⟩
  refine wpAny_Assign_Subscript (thn (hv.run pins s σ H _ I h) fun r s1 ⟨x, H1, I1, rx, q1⟩ => thn (ho.run pins s1 σ H1 _ I1 q1) fun u s2 ⟨y, H2, I2, ry, q2⟩ => thn (hi.run pins s2 σ H2 _ I2 q2) fun iv s3 ⟨z, H3, I3, rz, q3⟩ => ?_) hs
  obtain ⟨v, d, t, p, xs, rfl, rfl, rfl, hd, hk, hp, hz, q⟩ := q3
  obtain rfl := rx
  obtain rfl := ry
  obtain rfl := rz
  have R := ndO_get I3 hd
  refine wpAny_setItem_heap (knd := nestedKind X.prog X.w) (hsz := by rw [List.length_map]; exact R.1) (by show X.A.units + 1 + 8 < cLine; omega) (pair_nested I3 hp) (nd_dict I3 hd hk) fun h' dd hs => ?_
  rw [stored_raw] at dd
  have := putE_len xs t p v
  exact ⟨σ, _, nd_write I3 hd hs (nd_of dd (by omega) R.2.1 (putE_nodup R.2.2.1)), q⟩
end
theorem ps_same {X : Cx} {st : Stmt} {t t' : TS} (h : PS X st t) (e : t = t') : PS X st t' := by
  rw [← e]
  exact h
/-! ### {pair: value} -/
def tNDisp (P : Program) (w : World) (tk tv : TE) : TE := fun σ H Q => ∀ d, H d = none → tk σ (upd H d (NdO P w d [])) fun x H1 => tv σ H1 fun y H2 => ∃ (t v : Addr) (p : Pr), x = .ref t ∧ y = .ref v ∧ H2 d = some (NdO P w d []) ∧ PairAt H2 t p ∧
  Q (.ref d) (upd H2 d (NdO P w d [(t, p, v)]))
section
variable {X : Cx} {k v : Expr} {tk tv : TE} {pos : Pos}
theorem pe_ndisp (hu : X.A.units + 64 < cLine) (hk : PE X k tk) (hv : PE X v tv) : PE X (.Dict [some k] [v] pos) (tNDisp X.prog X.w tk tv) := by
  refine ⟨fun pins s σ H Q I q => ?_⟩
  have hn := I.hok.fresh (Nat.le_refl s.heap.objs.size)
  have I1 := I.laid (t' := s.toks) (h' := s.heap.push { cls := .type "dict", data := .dict #[] }) (fun _ _ q => Heap.get?_push_of_some _ q) (Nat.le_refl _) (nd_empty s.heap I.big)
  have hpl : (pairTrees [some k] [v] X.env pos).length = 1 := rfl
  rw [arm_eval_Dict, zip_pairTrees [some k] [v] X.env pos rfl rfl, dictDisplay_pairs (pairTrees [some k] [v] X.env pos) (by intro z; cases z) (by rw [hpl]; decide)]
  refine wpAny_bind (wpAny_standAt (wpAny_bind (wpAny_subDictH (knd := nestedKind X.prog X.w) (by show X.A.units + 8 < cLine; omega) (by rw [hpl]; decide) ?_)))
  refine pairTrees_cons_walk (thn (hk.run pins _ σ _ _ I1 (q _ hn)) fun u s2 ⟨x, H2, I2, rx, q2⟩ => thn (hv.run pins s2 σ H2 _ I2 q2) fun u2 s3 ⟨y, H3, I3, ry, q3⟩ => pairTrees_nil_walk ?_)
  obtain ⟨t, v, p, rfl, rfl, hd, hp, q4⟩ := q3
  obtain rfl := rx
  obtain rfl := ry
  have R := ndO_get I3 hd
  refine ⟨[(nkP p, t, .ref v)], ⟨rfl, rfl, pair_nested I3 hp, True.intro⟩, nd_dict I3 hd (fun x h => by cases h), fun h' tk2 dd hs => wpAny_pure ⟨.ref s.heap.objs.size, _, nd_write I3 hd hs (nd_of (xs := [(t, p, v)]) dd (by show 1 ≤ sizeLine; decide) R.2.1 (by simp)), rfl, q4⟩⟩
end
/-! ### for (pair, value) in d.items() -/
def Itn (P : Program) (w : World) (d : Addr) (o : Obj) (xs : List Ent) : It :=
  ⟨fun i H => H d = some (.frz o (NdO P w d xs)) ∧ i < xs.length, fun i H x H' => ∃ T e, xs[i]? = some e ∧ x = .ref T ∧ H T = none ∧ H' = upd H T (.tup [.ref e.1, .ref e.2.2]), fun i H => H d = some (.frz o (NdO P w d xs)) ∧ xs.length ≤ i⟩
theorem nd_frz {X : Cx} {pins : List (Addr × Obj)} {σ : L2.St} {H : Hp} {s : Shared} {d : Addr} {o : Obj} {xs : List Ent} (I : Inv X pins σ H s) (h : H d = some (.frz o (NdO X.prog X.w d xs))) :
    (d == sysModules) = false ∧ s.heap.get? d = some o ∧ o.ExactDict ∧ ∃ es ep, o.data = .dict es ep ∧ es.toList = (xs.map rawE).map (entryOfKey (nestedKind X.prog X.w)) := by
  obtain ⟨hd, R, _⟩ := I.hok d _ h
  obtain ⟨_, hs, _, o', es, ep, ho, hx, hdt, he⟩ := R
  rw [hd] at ho
  cases ho
  exact ⟨hs, hd, hx, es, ep, hdt, he⟩
theorem raw_at {P : Program} {w : World} {es : Array DictEntry} {xs : List Ent} (he : es.toList = (xs.map rawE).map (entryOfKey (nestedKind P w))) : es.size = xs.length ∧ ∀ (i : Nat) (hi : i < es.size) (e : Ent), xs[i]? = some e → es[i].key = .ref e.1 ∧ es[i].val = .ref e.2.2 := by
  have hl : es.size = xs.length := by
    have := congrArg List.length he
    rw [List.length_map, List.length_map, Array.length_toList] at this
    exact this
  refine ⟨hl, fun i hi e h => ?_⟩
  have h1 : es.toList[i]? = some es[i] := by
    rw [Array.getElem?_toList]
    exact Array.getElem?_eq_getElem hi
  rw [he, List.getElem?_map, List.getElem?_map, h] at h1
  have h2 := Option.some.inj h1
  rw [← h2]
  exact ⟨rfl, rfl⟩
theorem turn_nd {P : Program} {w : World} {K : PySem.W.Frag} {d : Addr} {o : Obj} {es : Array DictEntry} {ep : Nat} {xs : List Ent} {elts : List Expr} {kk : Nat} {tpos : Pos} (it : Addr) (hod : o.data = .dict es ep) :
    Turn P w K (.Tuple elts kk tpos) (Itn P w d o xs) [it] it (fun i h => ∃ ok ov, IsItemIter h it d i es.size ep ok ov) where
  mem := List.mem_singleton.mpr rfl
  obj := fun i h st b hb => by
    obtain ⟨ok, ov, e⟩ := st
    rw [List.mem_singleton.mp hb]
    exact ⟨_, e, fun v z => by cases z⟩
  keep := fun i h h' st k => by
    obtain ⟨ok, ov, e⟩ := st
    exact ⟨ok, ov, k it (List.mem_singleton.mpr rfl) _ e⟩
  item := by
    intro X hP hw hK hc i pins s σ H E I hf st hg
    subst hP hw hK
    obtain ⟨hd, hi⟩ := hg
    obtain ⟨hs, hgd, hx, es', ep', hdt, he⟩ := nd_frz I hd
    obtain ⟨rfl, rfl⟩ := dict_ep hod hdt
    obtain ⟨hl, hat⟩ := raw_at he
    obtain ⟨ok, ov, hit⟩ := st
    have hie : i < es'.size := by omega
    obtain ⟨hk, hv⟩ := hat i hie xs[i] (List.getElem?_eq_getElem hi)
    have hlt : it < s.heap.objs.size := Heap.lt_size hit
    refine wpAny_pyNext_items_item_raw hit ⟨o, hgd, hx, hdt⟩ hie fun h' ho hT hz hkp => ?_
    refine ⟨_, rfl, wpAny_letOwnedTupleGo_items (s := { s with heap := h' }) ho fun h2 he2 sb => ?_⟩
    have hT2 : h2.get? s.heap.objs.size = some { cls := .type "tuple", data := .seq #[.ref xs[i].1, .ref xs[i].2.2] } := by
      rw [hk, hv] at hT
      exact (sb.2 _ (Nat.ne_of_gt hlt)).trans hT
    have new : ObjOk X.prog X.w (upd H s.heap.objs.size (.tup [.ref xs[i].1, .ref xs[i].2.2])) h2 s.heap.objs.size (.tup [.ref xs[i].1, .ref xs[i].2.2]) :=
      ⟨by show 2 ≤ sizeLine; decide, [.ref xs[i].1, .ref xs[i].2.2], .cons rfl (.cons rfl .nil), _, hT2, rfl, _, rfl⟩
    have I1 := I.turnedNew (t' := s.toks) (ch := [it]) (fun b ob hb e => (sb.2 b (fun z => hb (by rw [z]; exact List.mem_singleton.mpr rfl))).trans (hkp b ob (fun z => hb (by rw [z]; exact List.mem_singleton.mpr rfl)) e)) hf (Nat.le_refl _) new
    refine ⟨.ref s.heap.objs.size, _, I1, rfl, ⟨_, xs[i], List.getElem?_eq_getElem hi, rfl, I.hok.fresh (Nat.le_refl _), rfl⟩, ⟨_, _, he2⟩, fun b hb => ?_⟩
    rw [List.mem_singleton.mp hb, upd_ne (Nat.ne_of_lt hlt)]
    exact (hf it (List.mem_singleton.mpr rfl)).1
  done := by
    intro X hP hw hK hc i pins s σ H E I hf st hg
    subst hP hw hK
    obtain ⟨hd, hi⟩ := hg
    obtain ⟨f0, f1, f2, f3, f4, f5⟩ := hf it (List.mem_singleton.mpr rfl)
    obtain ⟨hs, hgd, hx, es', ep', hdt, he⟩ := nd_frz I hd
    obtain ⟨rfl, rfl⟩ := dict_ep hod hdt
    obtain ⟨hl, hat⟩ := raw_at he
    obtain ⟨ok, ov, hit⟩ := st
    exact wpAny_pyNext_items_end_raw (I.ok.hd hc) hit ⟨o, hgd, hx, hdt⟩ (by omega) fun h' eb => ⟨rfl, I.turned (t' := s.toks) (fun b ob hb e => eb b ob hb e) f0 f1 f3 f4 f5⟩
  self := fun A i s Q E st h => by
    obtain ⟨ok, ov, e⟩ := st
    exact PySem.W.kcp_self e h
def iNItems (P : Program) (w : World) (td : TE) : TI := fun σ H R => td σ H fun x H1 => ∃ d o xs, x = .ref d ∧ H1 d = some (.frz o (NdO P w d xs)) ∧ R (Itn P w d o xs) H1
theorem meets_nd_items {P : Program} {w : World} (d : Addr) (hd : (d == sysModules) = false) :
    MeetsIn P w (Builtin.«dict.items» ⟨[.ref d], []⟩) (fun _ R s => (∃ es ep, s.heap.DictRaw d es ep) ∧ R (.ok (.ret (.ref s.heap.objs.size))) { s with heap := s.heap.push { cls := .type "dict_items", data := .fields #[.ref d] } }) :=
  .of_wp fun A R s ⟨⟨es, ep, hm⟩, h⟩ => by
    unfold Builtin.«dict.items» Builtin.Dict.noArgs
    refine wpAny_bind (wpAny_bind (wpAny_notOrdered_dict hm.typeIs (wpAny_pure ?_)))
    unfold Builtin.Dict.showsAll
    rw [if_neg (by rw [hd]; decide)]
    exact wpAny_bind (wpAny_pure (wpAny_bind (wpAny_newObj_type (wpAny_pure ⟨_, rfl, h⟩))))
theorem pi_nitems {X : Cx} {e : Expr} {td : TE} {apos cpos tpos : Pos} {elts : List Expr} {kk : Nat} (he : PE X e td) (hbase : attributeBase e "items" X.env (eval e X.env) = eval e X.env := by rfl) (hline : (apos.endLine == cpos.line) = true := by rfl) :
    PI X (.Tuple elts kk tpos) (.Call (.Attribute e "items" apos) [] [] cpos) (iNItems X.prog X.w td) := by
  refine ⟨fun pins s σ H R I h => ?_⟩
  refine wpAny_Call_method (T := "dict") (id := "dict.items") hbase rfl hline F.plainAttrs_dict F.slot_dict_items F.type_dict_items (thn (he.run pins s σ H _ I h) fun u s1 ⟨x, H1, I1, rx, q1⟩ => ?_)
  obtain ⟨d, o, xs, rfl, hd, q⟩ := q1
  obtain rfl : u = Value.ref d := rx
  obtain ⟨hs, hgd, hx, es, ep, hdt, hen⟩ := nd_frz I1 hd
  have hm : s1.heap.DictRaw d es ep := ⟨o, hgd, hx, hdt⟩
  refine ⟨hm.typeIs, fun b z => by cases z; exact ⟨o, hgd, hx.2.1⟩, ?_⟩
  have I2 : Inv X pins σ H1 { s1 with heap := s1.heap.push { cls := .type "dict_items", data := .fields #[.ref d] } } := I1.kept (t' := s1.toks) fun b ob q => Heap.get?_push_of_some _ q
  show wpAny _ _ (callWith cpos (.builtin "dict.items") [.ref d] [] []) _ X.xe s1
  refine method_meetsIn F.slot_dict_items F.entry_dict_items rfl (PySem.evalArgs_none ⟨rfl, hm.typeIs, F.args_dict_items_1 _, _, meets_nd_items d hs, ⟨es, ep, hm⟩, ?_⟩)
  exact wpAny_pyIter_items_raw (d := d) ⟨_, Heap.get?_push_size _ rfl, rfl, rfl⟩ (hm.push _) (pi_one (tk := s1.toks) I2 _ (turn_nd _ hdt) ⟨.none, .none, Heap.get?_push_size _ rfl⟩ q)
/-- the turns of a walk over the entries -/
theorem for_nd {P : Program} {w : World} {d : Addr} {o : Obj} {xs : List Ent} {g : TG} {tb : TS} {D : Ends} {σ : L2.St} {H : Hp} (Pv : Nat → L2.St → Hp → Prop) (h0 : Pv 0 σ H) (hl : ∀ i σ H, Pv i σ H → H d = some (.frz o (NdO P w d xs)))
    (hs : ∀ i e σ H T, xs[i]? = some e → Pv i σ H → H T = none → g (.ref T) σ (upd H T (.tup [.ref e.1, .ref e.2.2])) fun σ2 H2 => tb { D with nx := Pv (i + 1), ct := Pv (i + 1), bk := D.nx } σ2 H2)
    (hd : ∀ σ H, Pv xs.length σ H → D.nx σ H) :
    ∃ W : Nat → Nat → L2.St → Hp → Prop, (∃ m, W 0 m σ H) ∧ ∀ i m σ H, W i m σ H →
      ((Itn P w d o xs).stop i H ∧ D.nx σ H) ∨ ((Itn P w d o xs).go i H ∧ ∃ N : L2.St → Hp → Prop, (∀ σ' H', N σ' H' → ∃ m', m' < m ∧ W (i + 1) m' σ' H') ∧ ∀ x H', (Itn P w d o xs).yld i H x H' → g x σ H' fun σ2 H2 => tb { D with nx := N, ct := N, bk := D.nx } σ2 H2) := by
  refine ⟨fun i m σ H => m + i = xs.length ∧ Pv i σ H, ⟨xs.length, rfl, h0⟩, ?_⟩
  intro i m σ H q
  obtain ⟨e, p⟩ := q
  rcases Nat.lt_or_ge i xs.length with hi | hi
  · right
    refine ⟨⟨hl i σ H p, hi⟩, Pv (i + 1), fun σ' H' p' => ⟨m - 1, by omega, by omega, p'⟩, fun x H' y => ?_⟩
    obtain ⟨T, en, h1, h2, h3, h4⟩ := y
    rw [h2, h4]
    exact hs i en σ H T h1 p h3
  · left
    have e2 : i = xs.length := by omega
    rw [e2] at p
    exact ⟨⟨hl _ σ H p, hi⟩, hd σ H p⟩
/-! ### sorted(d) -/
open PySem.W (Datum DatumOrd Tup)
def dpT (p : Pr) : Tup Int × Tup Int := (⟨p.1⟩, ⟨p.2⟩)
theorem ints_all {K : PySem.W.Frag} {H : Hp} : ∀ l : List Int, IsAll K H (l.map V.int) l
  | [] => .nil
  | x :: l => .cons (is_int x) (ints_all l)
theorem pair_is {K : PySem.W.Frag} {H : Hp} {t : Addr} {p : Pr} (h : PairAt H t p) : Is K H (.ref t) (dpT p) := by
  obtain ⟨a, b, h0, ha, hb⟩ := h
  exact My.is_pair (.inl (.inl h0)) (is_tup (.inl (.inl ha)) (ints_all _)) (is_tup (.inl (.inl hb)) (ints_all _))
def rSortedN (P : Program) (w : World) : List V → Hp → VK → Prop := fun vs H Q => ∃ (d : Addr) (xs : List Ent), vs = [.ref d] ∧ H d = some (NdO P w d xs) ∧ Keyed H xs ∧
  ∀ (ys : List Ent) (p : Addr), ys.Perm xs → (ys.map (·.2.1)).Nodup → ys.Pairwise (fun x y => lxP y.2.1 x.2.1 = false) → H p = none → Q (.ref p) (upd H p (.lst (ys.map fun x => V.ref x.1)))
theorem nums_reads {h : Heap} : ∀ {l : List Int} {us : List Value}, Vals (l.map V.int) us → ReadsAll h us (l.map Datum.toD) []
  | [], _, r => by
    cases r
    exact .nil
  | x :: l, _, r => by
    cases r with
    | cons r t =>
      obtain ⟨tk, rfl⟩ := r
      exact .cons (as := []) (bs := []) (.int _ _) (nums_reads t)
section
variable {X : Cx} {pins : List (Addr × Obj)} {σ : L2.St} {H : Hp} {s : Shared} {t : Addr} {p : Pr}
theorem row_reads (I : Inv X pins σ H s) {l : List Int} (e : H t = some (.tup (l.map V.int))) : Reads s.heap (.ref t) (Datum.toD (Tup.mk l)) [] := by
  obtain ⟨_, us, r, o, h1, h2, n, h3⟩ := (show ObjOk X.prog X.w H s.heap t (.tup (l.map V.int)) from I.hok t _ e)
  exact .tuple h1 h2 h3 (by simpa using nums_reads r)
theorem pair_reads (I : Inv X pins σ H s) (e : PairAt H t p) : Reads s.heap (.ref t) (Datum.toD (dpT p)) [] := by
  obtain ⟨a, b, h0, ha, hb⟩ := e
  obtain ⟨_, us, r, o, h1, h2, n, h3⟩ := (show ObjOk X.prog X.w H s.heap t (.tup [.ref a, .ref b]) from I.hok t _ h0)
  cases r with
  | cons r1 r =>
    cases r with
    | cons r2 r =>
      cases r
      obtain rfl := r1
      obtain rfl := r2
      exact .tuple h1 h2 h3 (.cons (as := []) (bs := []) (row_reads I ha) (.cons (as := []) (bs := []) (row_reads I hb) .nil))
end
theorem ents_each {X : Cx} {pins : List (Addr × Obj)} {σ : L2.St} {H : Hp} {s : Shared} (I : Inv X pins σ H s) (l : Addr) : ∀ {xs : List Ent}, Keyed H xs → PySem.W.EachIs (fun v (e : Ent) => ∃ as, Reads s.heap v (Datum.toD (dpT e.2.1)) as ∧ l ∉ as) (xs.map fun e => Value.ref e.1) xs
  | [], _ => .nil
  | x :: xs, h => .cons ⟨[], pair_reads I (h x List.mem_cons_self), by simp⟩ (ents_each I l fun y hy => h y (List.mem_cons_of_mem _ hy))
theorem ents_refs : ∀ xs : List Ent, PySem.W.EachIs (fun v (e : Ent) => v = Value.ref e.1) (xs.map fun e => Value.ref e.1) xs
  | [] => .nil
  | x :: xs => .cons rfl (ents_refs xs)
theorem vals_refs : ∀ {xs : List Ent} {us : List Value}, PySem.W.EachIs (fun v (e : Ent) => v = Value.ref e.1) us xs → Vals (xs.map fun e => V.ref e.1) us
  | _, _, .nil => .nil
  | _, _, .cons r t => by
    subst r
    exact .cons rfl (vals_refs t)
theorem cr_sortedN {X : Cx} (hcalm : X.calm = true) (hu : X.A.units + 64 < cLine) : CallR X (.builtin "sorted") (rSortedN X.prog X.w) := by
  intro pins s σ H vs us Q I r h
  obtain ⟨d, xs, rfl, hd, hk, q⟩ := h
  rw [Vals.ref1 r]
  obtain ⟨hz, hs, hn, o, es, ep, ho, hx, hdt, he⟩ := ndO_get I hd
  obtain ⟨hl, hat⟩ := raw_at he
  refine Calls.call_function_entry PyProof.Rows.kind_sorted PyProof.Rows.plain_sorted PyProof.Rows.entry_sorted (PyProof.Rows.args_sorted1 _) ?_
  unfold Builtin.«sorted»
  refine wpAny_bind (m := checkCount "sorted" 1 1 _) (wpAny_pure ?_)
  refine wpAny_bind (PySem.W.kdu_collect (A := X.A.in1) (PySem.KdlSrc.rawDict (es := es) (ep := ep) hs) (I.ok.hd hcalm) ⟨o, ho, hx, hdt⟩ (by omega) fun h' tk acc hkp hacc => ?_)
  have hal : acc.toList = xs.map fun e => Value.ref e.1 := by
    apply List.ext_getElem?
    intro j
    rw [List.getElem?_map]
    have hsz : acc.size = xs.length := by rw [hacc.1, hl]
    rcases Nat.lt_or_ge j xs.length with c | c
    · have e1 : acc.toList[j]? = some acc[j] := by rw [Array.getElem?_toList, Array.getElem?_eq_getElem (by omega)]
      obtain ⟨hi, e2⟩ := hacc.2 j acc[j] (by rw [Array.getElem?_eq_getElem (by omega)])
      rw [e1, List.getElem?_eq_getElem c, e2, (hat j hi xs[j] (List.getElem?_eq_getElem c)).1]
      rfl
    · rw [List.getElem?_eq_none c, List.getElem?_eq_none (by rw [Array.length_toList]; omega)]
      rfl
  have I1 : Inv X pins σ H { s with heap := h', toks := tk } := I.kept hkp
  rw [hal]
  refine wpAny_bind (wpAny_newList ?_ (by rw [List.length_map]; exact hz))
  have hoL : (h'.push (seqObj "list" (xs.map fun e => Value.ref e.1).toArray 0)).get? h'.objs.size = some (seqObj "list" (xs.map fun e => Value.ref e.1).toArray 0) := Heap.get?_push_size _ rfl
  have I2 : Inv X pins σ H { s with heap := h'.push (seqObj "list" (xs.map fun e => Value.ref e.1).toArray 0), toks := tk } := I1.kept (t' := tk) fun b ob z => Heap.get?_push_of_some _ z
  show wpAny _ _ _ _ _ { s with heap := h'.push (seqObj "list" (xs.map fun e => Value.ref e.1).toArray 0), toks := tk }
  have hle : (PySem.W.dataLe false fun e : Ent => Datum.toD (dpT e.2.1)) = fun x y => !lxP y.2.1 x.2.1 := by
    rw [PySem.W.dataLe_eq]
    funext x y
    show (!PySem.W.dataLt (Datum.toD (dpT y.2.1)) (Datum.toD (dpT x.2.1))) = _
    rw [DatumOrd.lt_eq, ltP_is]
    rfl
  have hp : (xs.mergeSort (PySem.W.dataLe false fun e : Ent => Datum.toD (dpT e.2.1))).Perm xs := List.mergeSort_perm _ _
  have hw : (xs.mergeSort (PySem.W.dataLe false fun e : Ent => Datum.toD (dpT e.2.1))).Pairwise (fun x y => lxP y.2.1 x.2.1 = false) := by
    rw [hle]
    refine (List.pairwise_mergeSort (le := fun x y : Ent => !lxP y.2.1 x.2.1) (fun x y z h1 h2 => ?_) (fun x y => ?_) xs).imp fun h => ?_
    · rw [Bool.not_eq_true'] at h1 h2 ⊢
      have t := ordered_pairs.tr (dpT x.2.1) (dpT y.2.1) (dpT z.2.1) (by rw [ltP_is]; exact h1) (by rw [ltP_is]; exact h2)
      rw [ltP_is] at t
      exact t
    · have t := ordered_pairs.tot (dpT x.2.1) (dpT y.2.1)
      rw [ltP_is, ltP_is] at t
      have t2 : lxP x.2.1 y.2.1 = false ∨ lxP y.2.1 x.2.1 = false := t
      rcases t2 with h | h
      · rw [h, Bool.not_false, Bool.or_true]
      · rw [h, Bool.not_false, Bool.true_or]
    · rw [Bool.not_eq_true'] at h
      exact h
  refine wpAny_bind (wpAny_holding (PySem.W.list_sort_data (s := { s with heap := h'.push (seqObj "list" (xs.map fun e => Value.ref e.1).toArray 0), toks := tk }) (R := fun v (e : Ent) => v = Value.ref e.1) (enc := fun e : Ent => Datum.toD (dpT e.2.1)) (bs := xs)
    hoL (ents_refs xs) ?er (PySem.W.AllAlike.of fun x y => DatumOrd.alike (dpT x.2.1) (dpT y.2.1)) (PySem.W.Sortable.tuples fun e => ⟨_, _, rfl⟩) hz (fun e _ => ?dep) fun out h1 h2 => ?fin))
  case dep =>
    have := Datum.depth_le (dpT e.2.1)
    show X.A.units + 1 + 1 + _ < cLine
    refine Nat.lt_of_le_of_lt (Nat.add_le_add_left this _) ?_
    show X.A.units + 1 + 1 + 2 < cLine
    omega
  case er => exact ents_each I2 _ hk
  case fin =>
    obtain ⟨ep2, he2⟩ := PyProof.Rows.sortedHeap_at (vs := xs.map fun e => Value.ref e.1) (out := out.toArray) hoL
    generalize xs.mergeSort (PySem.W.dataLe false fun e : Ent => Datum.toD (dpT e.2.1)) = ys at *
    refine wpAny_pure ⟨_, rfl, .ref h'.objs.size, upd H h'.objs.size (.lst (ys.map fun e => V.ref e.1)), I1.laid (t' := tk) (fun b u z => ?_) (Nat.le_refl _) ⟨?_, out, ep2, vals_refs h2, he2⟩, rfl, q ys _ hp ((hp.map (·.2.1)).nodup_iff.mpr hn) hw (I1.hok.fresh (Nat.le_refl _))⟩
    · have hb : b < h'.objs.size := Heap.lt_size z
      rw [PyProof.Rows.sortedHeap_old (Nat.ne_of_lt hb) (by rw [size_push']; exact Nat.lt_succ_of_lt hb)]
      exact Heap.get?_push_of_some _ z
    · rw [List.length_map, hp.length_eq]
      exact hz
end My

/-! set(list): told by what one more item does to the set; sets of whole numbers; sorted(set(numbers)). -/
namespace My
open PySem PySem.Spec PyProof.Rows L2
/-- the set as it is born -/
def born (w : World) : Obj := { cls := .type "set", dict := none, data := .set #[] 0 (.fresh 0 0 (!w.params.followText "set-order")) }
section
variable {P : Program} {w : World} {A : Around} {E : Value → Shared → Prop}
theorem set_turns {I S : Addr} {fp wr : List Addr} {n : Nat} {Pv : Nat → Value → Prop} {Z : Nat → Heap → Prop} {J : Nat → Heap → Prop} {R : Result → Shared → Prop} (W : Walks P w A.in1 I fp wr n Pv Z) (away : S ∉ fp)
    (stay : ∀ i h h', J i h → (∀ b o, b ∉ wr → h.get? b = some o → h'.get? b = some o) → J i h')
    (more : ∀ i v (s : Shared) (Q : Bool → Shared → Prop), i < n → Pv i v → J i s.heap → (∀ b h' tk, Heap.SameBut S s.heap h' → J (i + 1) h' → Q b { s with heap := h', toks := tk }) → wpAny (model P w) A.in1 (setAdd S v) Q (fun e s' => R (.error e) s') s) :
    ∀ (k i : Nat) (s : Shared), i + k = n → Z i s.heap → J i s.heap → (∀ h' tk, J n h' → (∀ b o, b ≠ S → b ∉ wr → s.heap.get? b = some o → h'.get? b = some o) → R (.ok (.ret .none)) { s with heap := h', toks := tk }) →
      codeAny (model P w) A (.builtin "set.update.loop" ⟨[.ref S, .ref I], []⟩) R s
  | 0, i, s, e, hz, hj, q => by
    have e : i = n := by omega
    rw [e] at hz hj
    refine codeAny_builtin F.entry_set_update_loop ?_
    rw [Around.under_plainId F.plain_set_update_loop _]
    show wpAny _ A.in1 (pyNext (.ref I) >>= _) _ _ s
    refine wpAny_bind (W.done s _ _ hz fun h1 t1 k1 => ?_)
    exact wpAny_pure (q h1 t1 (stay n _ _ hj k1) fun b o _ hb z => k1 b o hb z)
  | k + 1, i, s, e, hz, hj, q => by
    have lt : i < n := by omega
    refine codeAny_builtin F.entry_set_update_loop ?_
    rw [Around.under_plainId F.plain_set_update_loop _]
    show wpAny _ A.in1 (pyNext (.ref I) >>= _) _ _ s
    refine wpAny_bind (W.item i s _ _ lt hz fun v h1 t1 hv z1 k1 => ?_)
    show wpAny _ A.in1 (holding [v] (setAdd S v) >>= _) _ _ _
    refine wpAny_bind (wpAny_holding (more i v { s with heap := h1, toks := t1 } _ lt hv (stay i _ _ hj k1) fun b h2 t2 sb j2 => ?_))
    refine wpAny_pure ⟨plainId_quiet F.plain_set_update_loop _, set_turns W away stay more k (i + 1) { s with heap := h2, toks := t2 } (by omega) (W.frame _ h1 _ z1 fun b hb o z => ?_) j2 fun h3 t3 j3 k3 => ?_⟩
    · have ne : b ≠ S := fun y => away (by rw [← y]; exact hb)
      exact (sb.2 b ne).trans z
    · exact q h3 t3 j3 fun b o hb hw z => k3 b o hb hw ((sb.2 b hb).trans (k1 b o hw z))
end
section
variable {P : Program} {w : World} {A : Around} {E : Value → Shared → Prop} {s : Shared}
theorem set_born (a : Value) {Q : Value → Shared → Prop} (h : Q (.ref s.heap.objs.size) { s with heap := s.heap.push (born w) }) : codeAny (model P w) A (.call (.builtin "set.__new__") ⟨[.type "set", a], []⟩) (wants Q E) s := code_set_led1 a h
theorem call_setL {l : Addr} {items : Array Value} {J : Nat → Heap → Prop} {Q : Value → Shared → Prop} (hh : A.handled = none) (hl : s.heap.IsList l items)
    (start : ∀ h : Heap, h.get? s.heap.objs.size = some (born w) → (∀ b o, s.heap.get? b = some o → h.get? b = some o) → J 0 h)
    (stay : ∀ i h h', J i h → (∀ b o, b < s.heap.objs.size + 1 → h.get? b = some o → h'.get? b = some o) → J i h')
    (more : ∀ (B : Around) (F : Value → Shared → Prop) i v (s' : Shared) (Q' : Bool → Shared → Prop), B.units ≤ A.units + 4 → i < items.size → items[i]? = some v → J i s'.heap →
      (∀ b h' tk, Heap.SameBut s.heap.objs.size s'.heap h' → J (i + 1) h' → Q' b { s' with heap := h', toks := tk }) → wpAny (model P w) B (setAdd s.heap.objs.size v) Q' F s')
    (h : ∀ (h' : Heap) (tk : Nat), J items.size h' → (∀ b o, s.heap.get? b = some o → h'.get? b = some o) → Q (.ref s.heap.objs.size) { s with heap := h', toks := tk }) :
    wpAny (model P w) A (call (.type "set") [.ref l]) Q E s := by
  obtain ⟨c, tl, hmro⟩ := F.called_set.mro
  have hmade := F.called_set.made
  have hsub := F.called_set.sub
  refine wpAny_call (codeAny_of_tree ?_)
  show wpAny _ _ (callAny (.type "set") _) _ _ _
  refine wpAny_pure ⟨Code.quiet_builtin _ (by decide +kernel), codeAny_builtin F.entry_type_call ?_⟩
  rw [Around.under_plain (weight_type_call_type "set" [.ref l] []) rfl]
  have h1 := F.called_set.notType
  have h2 := F.called_set.canCreate
  have hct := F.typeCall_set_1 (.ref l)
  repeat (any_goals (first | assumption | wp_step))
  refine codeAny_mono (set_born (.ref l) (E := E) (Q := fun x s1 => x = .ref s.heap.objs.size ∧ s1 = { s with heap := s.heap.push (born w) }) ⟨rfl, rfl⟩) fun r s1 hr => ?_
  cases r with
  | error e => exact hr
  | ok fl =>
    cases fl with
    | ret x =>
      obtain ⟨rfl, rfl⟩ := hr
      have hS : (s.heap.push (born w)).get? s.heap.objs.size = some (born w) := Heap.get?_push_size _ rfl
      have hT : Shared.TypeIs { s with heap := s.heap.push (born w) } (.ref s.heap.objs.size) "set" := ⟨_, hS, rfl⟩
      have hli := F.called_set.init.lookup
      have hbi := F.called_set.init.bind (.ref s.heap.objs.size)
      repeat (any_goals (first | assumption | wp_step))
      refine codeAny_mono (codeAny_call_builtin (R := wants (fun r s2 => r = .none ∧ ∃ h' tk, s2 = { s with heap := h', toks := tk } ∧ J items.size h' ∧ ∀ b o, s.heap.get? b = some o → h'.get? b = some o) E)
        F.called_set.init.plain F.entry_set_init (check_set_init_1 hT ?_)) fun r2 s2 hr2 => ?_
      · obtain ⟨ol, hol, hcl, nl, hdl⟩ := hl
        obtain ⟨ocls, odict, odata, oslots⟩ := ol
        simp only at hcl hdl
        subst hcl
        subst hdl
        have hol2 : (s.heap.push (born w)).get? l = some { cls := .type "list", dict := odict, data := .seq items nl, slots := oslots } := Heap.get?_push_of_some _ hol
        have hsls := F.sub_list_set
        have hslf := F.sub_list_frozenset
        have hne : (Value.type "list" == Value.type "dict") = false := by decide
        have hl2 : (s.heap.push (born w)).IsList l items := ⟨_, hol2, rfl, nl, rfl⟩
        have zl : (s.heap.push (born w)).objs.size = s.heap.objs.size + 1 := Heap.size_push ..
        have ll : l < s.heap.objs.size := Heap.lt_size hol
        have nSI : s.heap.objs.size ≠ (s.heap.push (born w)).objs.size := by
          rw [zl]
          exact Nat.ne_of_lt (Nat.lt_succ_self _)
        have nlI : l ≠ (s.heap.push (born w)).objs.size := by
          rw [zl]
          exact Nat.ne_of_lt (Nat.lt_succ_of_lt ll)
        have nold : ∀ b, b < s.heap.objs.size → b ≠ (s.heap.push (born w)).objs.size := fun b hb => by
          rw [zl]
          exact Nat.ne_of_lt (Nat.lt_succ_of_lt hb)
        have nold2 : ∀ b, b < s.heap.objs.size + 1 → b ≠ (s.heap.push (born w)).objs.size := fun b hb => by
          rw [zl]
          exact Nat.ne_of_lt hb
        unfold Builtin.«set.__init__» noKeywords Builtin.Frozenset.updateFrom
        generalize hPI : pyIter = PI
        wp_walk
        subst hPI
        refine wpAny_pyIter_list hl2 (wpAny_bind (wpAny_runValue ?_))
        have h3 : A.in1.in1.in1.handled = none := by rw [Around.in1_handled, Around.in1_handled, Around.in1_handled, hh]
        refine set_turns (J := J) (Walks.list h3 (s.heap.push (born w)).objs.size l nlI items) ?_ (fun i g g' j k => stay i g g' j fun b o hb z => k b o (fun y => nold2 b hb (List.mem_singleton.mp y)) z) (fun i v s' Q' hi hv j q' => more _ _ i v s' Q' ?_ hi hv j q') items.size 0 _ (Nat.zero_add _)
          ⟨⟨_, Heap.get?_push_size _ rfl, rfl, rfl⟩, hl2.push _⟩ (start _ (Heap.get?_push_of_some _ hS) fun b o z => Heap.get?_push_of_some _ (Heap.get?_push_of_some _ z)) fun h2 t2 j2 k2 => ?_
        · intro z
          rcases List.mem_cons.mp z with z | z
          · exact nSI z
          · exact absurd (List.mem_singleton.mp z) (Nat.ne_of_gt ll)
        · rw [Around.in1_units, Around.in1_units, Around.in1_units]
          omega
        · refine wpAny_pure (wpAny_pure ⟨rfl, h2, t2, rfl, j2, fun b o z => ?_⟩)
          have hb : b < s.heap.objs.size := Heap.lt_size z
          exact k2 b o (Nat.ne_of_lt hb) (fun y => nold b hb (List.mem_singleton.mp y)) (Heap.get?_push_of_some _ (Heap.get?_push_of_some _ z))
      · cases r2 with
        | error e => exact hr2
        | ok f2 =>
          cases f2 with
          | ret y =>
            obtain ⟨rfl, h2, t2, rfl, j2, k2⟩ := hr2
            repeat (any_goals (first | assumption | wp_step))
            exact h h2 t2 j2 k2
          | _ => exact hr2.elim
    | _ => exact hr.elim
end
/-! ### whole numbers -/
/-- how many of the first i are unlike -/
def unlike (ns : List Int) : Nat → Nat
  | 0 => 0
  | i + 1 => unlike ns i + (if ns.getD i 0 ∈ ns.take i then 0 else 1)
theorem unlike_le (ns : List Int) : ∀ i, unlike ns i ≤ i
  | 0 => Nat.le_refl _
  | i + 1 => by
    have := unlike_le ns i
    unfold unlike
    split <;> omega
section
variable {P : Program} {w : World} {A : Around} {E : Value → Shared → Prop} {s : Shared}
theorem call_setI {l : Addr} {items : Array Value} {ns : List Int} {Q : Value → Shared → Prop} (hh : A.handled = none) (hl : s.heap.IsList l items) (hi : IntsAre items.toList ns) (hb : ns.length + 1 < scanBound)
    (h : ∀ (h' : Heap) (tk n : Nat), SetR w h' s.heap.objs.size (fun j => decide (j ∈ ns)) n → n ≤ ns.length → (∀ b o, s.heap.get? b = some o → h'.get? b = some o) → Q (.ref s.heap.objs.size) { s with heap := h', toks := tk }) :
    wpAny (model P w) A (call (.type "set") [.ref l]) Q E s := by
  have hz : items.size = ns.length := by
    have := IntsAre.length hi
    rw [Array.length_toList] at this
    exact this
  refine call_setL (J := fun i h => SetR w h s.heap.objs.size (fun j => decide (j ∈ ns.take i)) (unlike ns i)) hh hl (fun g hg _ => setR_new_at hg) (fun i g g' R k => R.at fun o z => k _ o (Nat.lt_succ_self _) z) ?_ ?_
  · intro B F i v s' Q' hu hlt hv R q
    have hlt2 : i < ns.length := by omega
    obtain ⟨t, e⟩ := PyProof.Rows.IntsAre.int_at hi i v (by rw [Array.getElem?_toList]; exact hv)
    rw [e]
    unfold setAdd
    refine wpAny_holding (wpAny_bind ((intKind P w).pyHash (k := ns.getD i 0) (intKind_is _ _ _ _) ?_))
    have room := unlike_le ns i
    refine setR_add_hashed (s := { s' with toks := s'.toks + 1 }) R (by omega) fun h2 sb R2 => q _ _ _ sb ?_
    have e2 : ns.getD i 0 = ns[i] := by rw [List.getD_eq_getElem?_getD, List.getElem?_eq_getElem hlt2] <;> rfl
    have e3 : ns.take (i + 1) = ns.take i ++ [ns.getD i 0] := by rw [e2, List.take_append_getElem]
    have e4 : (if decide (ns.getD i 0 ∈ ns.take i) = true then unlike ns i else unlike ns i + 1) = unlike ns (i + 1) := by
      show _ = unlike ns i + (if ns.getD i 0 ∈ ns.take i then 0 else 1)
      by_cases c : ns.getD i 0 ∈ ns.take i
      · rw [if_pos (decide_eq_true c), if_pos c]
        rfl
      · rw [if_neg (by rw [decide_eq_false c]; decide), if_neg c]
    rw [← e4]
    refine R2.congr fun j => ?_
    rw [e3]
    simp only [List.mem_append, List.mem_singleton, Bool.decide_or]
  · intro h2 t2 R k
    rw [hz, List.take_length] at R
    exact h h2 t2 _ R (unlike_le ns _) k
end
def rSetI (K : PySem.W.Frag) (w : World) : List V → Hp → VK → Prop := fun vs H Q => ∃ (a : Addr) (ns : List Int), vs = [.ref a] ∧ SqL K H a (ns.map V.int) ∧ ns.length < 64 ∧ ∀ p n, H p = none → n < 64 → Q (.ref p) (upd H p (SetO w p (fun k => decide (k ∈ ns)) n))
theorem nums_are : ∀ {l : List Int} {us : List Value}, Vals (l.map V.int) us → IntsAre us l
  | [], _, r => by
    cases r
    exact .nil
  | x :: l, _, r => by
    cases r with
    | cons r t =>
      obtain ⟨tk, rfl⟩ := r
      exact .cons _ _ (nums_are t)
theorem cr_setI {X : Cx} (hc : X.calm = true) : CallR X (.type "set") (rSetI X.K X.w) := by
  intro pins s σ H vs us Q I r h
  obtain ⟨a, ns, rfl, hs, h64, q⟩ := h
  obtain ⟨its, rv, hl, hz⟩ := I.list hs
  rw [Vals.ref1 r]
  refine call_setI (I.ok.hd hc) hl.isList (by simpa using nums_are rv) (by unfold scanBound; omega) fun h2 t2 n R hn k => ?_
  exact ⟨.ref s.heap.objs.size, _, I.laid (t' := t2) k (Nat.le_refl _) (setO_new R), rfl, q _ n (I.hok.fresh (Nat.le_refl _)) (by omega)⟩
end My

/-! Pairs of dice made face by face: begun pairs and the sums that are left. -/
namespace My
open PySem PySem.Spec PyProof.Rows L2
/-! ### sums taken out of a dictionary of counts, one by one -/
def wout : List (Int × Int) → List Int → Option (List (Int × Int))
  | m, [] => some m
  | m, t :: ts => if lookI m t = 0 then none else if lookI m t = 1 then wout (m.filter fun p => decide (p.1 ≠ t)) ts else wout (putI m t (lookI m t - 1)) ts
theorem cntT_cons (t : Int) (ts : List Int) (s : Int) : cntT (t :: ts) s = (if s = t then 1 else 0) + cntT ts s := by
  unfold cntT
  rw [List.count_cons]
  by_cases e : s = t
  · rw [if_pos e, if_pos (by rw [e]; exact beq_self_eq_true t)]
    omega
  · rw [if_neg e, if_neg (by rw [beq_iff_eq]; exact fun z => e z.symm)]
    omega
theorem tells_drop {m : List (Int × Int)} {g : Int → Int} {k : Int} (T : Tells m g) (h : g k = 1) : Tells (m.filter fun p => decide (p.1 ≠ k)) (less1 g k) where
  nd := T.nd.sublist ((List.filter_sublist (l := m)).map _)
  look := fun s => by
    rw [look_filter, T.look]
    unfold less1
    by_cases e : s = k
    · rw [if_pos e, if_pos e, e, h]
      rfl
    · rw [if_neg e, if_neg e, Int.sub_zero]
  pos := fun p hp => T.pos p ((List.mem_filter.mp hp).1)
theorem tells_nonneg {m : List (Int × Int)} {g : Int → Int} (T : Tells m g) (s : Int) : 0 ≤ g s := by
  rw [← T.look]
  by_cases c : lookI m s = 0
  · omega
  · exact Int.le_of_lt (T.pos _ (look_ne_mem c))
theorem tells_congr {m : List (Int × Int)} {g g' : Int → Int} (T : Tells m g) (h : ∀ s, g s = g' s) : Tells m g' := by
  rw [← funext h]
  exact T
theorem wout_some : ∀ {ts : List Int} {m m' : List (Int × Int)} {g : Int → Int}, Tells m g → wout m ts = some m' → Tells m' (fun s => g s - cntT ts s)
  | [], m, m', g, T, h => by
    have e : m = m' := Option.some.inj h
    rw [← e]
    exact tells_congr T fun s => by
      show g s = g s - ((([] : List Int).count s : Nat) : Int)
      rw [List.count_nil]
      omega
  | t :: ts, m, m', g, T, h => by
    unfold wout at h
    rw [T.look] at h
    by_cases c : g t = 0
    · rw [if_pos c] at h
      cases h
    · rw [if_neg c] at h
      have h0 := tells_nonneg T t
      by_cases d : g t = 1
      · rw [if_pos d] at h
        exact tells_congr (wout_some (tells_drop T d) h) fun s => by
          show less1 g t s - cntT ts s = g s - cntT (t :: ts) s
          rw [cntT_cons]
          unfold less1
          omega
      · rw [if_neg d] at h
        exact tells_congr (wout_some (tells_less T (by omega)) h) fun s => by
          show less1 g t s - cntT ts s = g s - cntT (t :: ts) s
          rw [cntT_cons]
          unfold less1
          omega
theorem wout_there : ∀ {ts : List Int} {m : List (Int × Int)} {g : Int → Int}, Tells m g → (∀ s, cntT ts s ≤ g s) → ∃ m', wout m ts = some m'
  | [], m, g, _, _ => ⟨m, rfl⟩
  | t :: ts, m, g, T, h => by
    have ht := h t
    rw [cntT_cons, if_pos rfl] at ht
    have h1 := cntT_nonneg ts t
    unfold wout
    rw [T.look, if_neg (by omega)]
    have rest : ∀ s, cntT ts s ≤ less1 g t s := fun s => by
      have := h s
      rw [cntT_cons] at this
      unfold less1
      omega
    by_cases d : g t = 1
    · rw [if_pos d]
      exact wout_there (tells_drop T d) rest
    · rw [if_neg d]
      exact wout_there (tells_less T (by omega)) rest
/-- all counts together -/
def sumV (m : List (Int × Int)) : Int := (m.map (·.2)).sum
theorem sumV_cons (p : Int × Int) (m : List (Int × Int)) : sumV (p :: m) = p.2 + sumV m := by
  unfold sumV
  rw [List.map_cons, List.sum_cons]
theorem sumV_none (k v : Int) : ∀ m : List (Int × Int), k ∉ m.map (·.1) → (m.map fun p => if p.1 = k then (p.1, v) else p) = m
  | [], _ => rfl
  | p :: m, h => by
    rw [List.map_cons, List.mem_cons, not_or] at h
    rw [List.map_cons, if_neg fun z => h.1 z.symm, sumV_none k v m h.2]
theorem sumV_put {k v : Int} : ∀ {m : List (Int × Int)}, (m.map (·.1)).Nodup → k ∈ m.map (·.1) → sumV (m.map fun p => if p.1 = k then (p.1, v) else p) = sumV m - lookI m k + v
  | [], _, h => by simp at h
  | p :: m, hn, h => by
    rw [List.map_cons, List.nodup_cons] at hn
    rw [List.map_cons, sumV_cons, sumV_cons]
    unfold lookI
    by_cases c : p.1 = k
    · rw [if_pos c, if_pos c, sumV_none k v m (by rw [← c]; exact hn.1)]
      show v + sumV m = p.2 + sumV m - p.2 + v
      omega
    · rw [if_neg c, if_neg c]
      rcases List.mem_cons.mp h with z | z
      · exact absurd z.symm c
      · rw [sumV_put hn.2 z]
        omega
theorem filter_none (k : Int) : ∀ m : List (Int × Int), k ∉ m.map (·.1) → (m.filter fun p => decide (p.1 ≠ k)) = m
  | [], _ => rfl
  | p :: m, h => by
    rw [List.map_cons, List.mem_cons, not_or] at h
    rw [List.filter_cons, if_pos (by rw [decide_eq_true_eq]; exact fun z => h.1 z.symm), filter_none k m h.2]
theorem sumV_drop {k : Int} : ∀ {m : List (Int × Int)}, (m.map (·.1)).Nodup → k ∈ m.map (·.1) → sumV (m.filter fun p => decide (p.1 ≠ k)) = sumV m - lookI m k
  | [], _, h => by simp at h
  | p :: m, hn, h => by
    rw [List.map_cons, List.nodup_cons] at hn
    rw [List.filter_cons]
    unfold lookI
    by_cases c : p.1 = k
    · rw [if_neg (by rw [decide_eq_true_eq]; exact fun z => z c), if_pos c, filter_none k m (by rw [← c]; exact hn.1), sumV_cons]
      omega
    · rw [if_pos (decide_eq_true c), if_neg c, sumV_cons, sumV_cons]
      rcases List.mem_cons.mp h with z | z
      · exact absurd z.symm c
      · rw [sumV_drop hn.2 z]
        omega
theorem wout_sum : ∀ {ts : List Int} {m m' : List (Int × Int)} {g : Int → Int}, Tells m g → wout m ts = some m' → sumV m' = sumV m - ((ts.length : Nat) : Int) ∧ m'.length ≤ m.length
  | [], m, m', g, T, h => by
    have e : m = m' := Option.some.inj h
    rw [← e]
    exact ⟨by simp, Nat.le_refl _⟩
  | t :: ts, m, m', g, T, h => by
    unfold wout at h
    rw [T.look] at h
    by_cases c : g t = 0
    · rw [if_pos c] at h
      cases h
    · rw [if_neg c] at h
      have h0 := tells_nonneg T t
      have hm : t ∈ m.map (·.1) := (tells_key T (tells_nonneg T) t).mpr (by omega)
      by_cases d : g t = 1
      · rw [if_pos d] at h
        obtain ⟨a, b⟩ := wout_sum (tells_drop T d) h
        have := sumV_drop T.nd hm
        rw [T.look] at this
        have l := List.length_filter_le (fun p : Int × Int => decide (p.1 ≠ t)) m
        refine ⟨?_, by omega⟩
        rw [a, this, d, List.length_cons]
        omega
      · rw [if_neg d] at h
        obtain ⟨a, b⟩ := wout_sum (tells_less T (by omega)) h
        have ha : (m.any fun p => decide (p.1 = t)) = true := by
          obtain ⟨q, hq, e⟩ := List.mem_map.mp hm
          exact List.any_eq_true.mpr ⟨q, hq, decide_eq_true e⟩
        have e1 : putI m t (g t - 1) = m.map (fun p => if p.1 = t then (p.1, g t - 1) else p) := by
          unfold putI
          rw [if_pos ha]
        have := sumV_put (v := g t - 1) T.nd hm
        rw [T.look, ← e1] at this
        refine ⟨?_, ?_⟩
        · rw [a, this, List.length_cons]
          omega
        · rw [e1, List.length_map] at b
          exact b
theorem sumV_pos {m : List (Int × Int)} (h : ∀ p ∈ m, 0 < p.2) (hs : 0 < sumV m) : m ≠ [] := fun e => by
  rw [e] at hs
  exact absurd hs (by decide)
theorem sumV_zero : ∀ {m : List (Int × Int)}, (∀ p ∈ m, 0 < p.2) → sumV m ≤ 0 → m = []
  | [], _, _ => rfl
  | p :: m, h, hs => by
    rw [sumV_cons] at hs
    have h1 := h p List.mem_cons_self
    have h2 : 0 ≤ sumV m := by
      clear hs
      induction m with
      | nil => decide
      | cons q r ih =>
        rw [sumV_cons]
        have := h q (by simp)
        have := ih fun z hz => h z (by
          rcases List.mem_cons.mp hz with e | e
          · rw [e]; exact List.mem_cons_self
          · exact List.mem_cons_of_mem _ (List.mem_cons_of_mem _ e))
        omega
    omega
/-! ### begun pairs -/
theorem cntT_append (d c : List Int) (s : Int) : cntT (d ++ c) s = cntT d s + cntT c s := by
  unfold cntT
  rw [List.count_append]
  omega
theorem cntT_add (y s : Int) : ∀ d : List Int, cntT (d.map (y + ·)) s = cntT d (s - y)
  | [] => rfl
  | x :: d => by
    rw [List.map_cons, cntT_cons, cntT_cons, cntT_add y s d]
    have : (s = y + x) ↔ (s - y = x) := by omega
    by_cases c : s = y + x
    · rw [if_pos c, if_pos (this.mp c)]
    · rw [if_neg c, if_neg fun z => c (this.mpr z)]
/-- the first die longer by a part -/
theorem conv_left (d c : List Int) (s : Int) : ∀ e : List Int, conv (cntT (d ++ c)) e s = conv (cntT d) e s + conv (cntT c) e s
  | [] => rfl
  | f :: e => by
    rw [conv_cons, conv_cons, conv_cons, conv_left d c s e, cntT_append]
    omega
theorem conv_one (x s : Int) : ∀ e : List Int, conv (cntT [x]) e s = cntT (e.map (x + ·)) s
  | [] => rfl
  | f :: e => by
    rw [conv_cons, List.map_cons, cntT_cons, conv_one x s e, cntT_cons]
    have h0 : cntT [] (s - f) = 0 := rfl
    rw [h0]
    have : (s - f = x) ↔ (s = x + f) := by omega
    by_cases c : s = x + f
    · rw [if_pos c, if_pos (this.mpr c)]
      omega
    · rw [if_neg c, if_neg fun z => c (this.mp z)]
      omega
theorem conv_snoc_one (f e : List Int) (x s : Int) : conv (cntT (f ++ [x])) e s = conv (cntT f) e s + cntT (e.map (x + ·)) s := by
  rw [conv_left, conv_one]
theorem conv_snoc_two (f e : List Int) (y s : Int) : conv (cntT f) (e ++ [y]) s = conv (cntT f) e s + cntT (f.map (y + ·)) s := by
  rw [conv_append, conv_cons, conv_nil, cntT_add, Int.add_zero]
structure Entry (g : Int → Int) (M N : Nat) (a b : Int) (k : Nat) (p : Pr) (m : List (Int × Int)) : Prop where
  l1 : 1 ≤ p.1.length ∧ p.1.length ≤ M
  l2 : 1 ≤ p.2.length ∧ p.2.length ≤ N
  len : p.1.length + p.2.length = k + 2
  r1 : Rising p.1
  r2 : Rising p.2
  h1 : p.1.head? = some a
  h2 : p.2.head? = some b
  tells : Tells m (fun s => g s - conv (cntT p.1) p.2 s)
  low1 : ∀ x ∈ p.1, ∀ s, 0 < g s - conv (cntT p.1) p.2 s → x + b ≤ s
  low2 : ∀ y ∈ p.2, ∀ s, 0 < g s - conv (cntT p.1) p.2 s → a + y ≤ s
  sum : sumV m = ((M * N : Nat) : Int) - ((p.1.length * p.2.length : Nat) : Int)
  small : m.length ≤ M * N
theorem rising_more {f : List Int} {x : Int} (h : Rising f) (hx : ∀ y ∈ f, y ≤ x) : Rising (f ++ [x]) :=
  List.pairwise_append.mpr ⟨h, List.pairwise_singleton _ _, fun y hy z hz => by
    rw [List.mem_singleton.mp hz]
    exact hx y hy⟩
theorem head_more {f : List Int} {a x : Int} (h : f.head? = some a) : (f ++ [x]).head? = some a := by
  cases f with
  | nil => cases h
  | cons y r => exact h
section
variable {g : Int → Int} {M N k : Nat} {a b t : Int} {p : Pr} {m m' : List (Int × Int)}
theorem Entry.some (E : Entry g M N a b k p m) (hk : k + 2 < M + N) : m ≠ [] := by
  refine sumV_pos E.tells.pos ?_
  rw [E.sum]
  obtain ⟨h1, h2⟩ := E.l1
  obtain ⟨h3, h4⟩ := E.l2
  have h5 := E.len
  have : p.1.length * p.2.length < M * N := by
    rcases Nat.lt_or_ge p.1.length M with c | c
    · exact Nat.lt_of_lt_of_le (Nat.mul_lt_mul_of_pos_right c (by omega)) (Nat.mul_le_mul_left M h4)
    · have e : p.1.length = M := by omega
      rw [e]
      exact Nat.mul_lt_mul_of_pos_left (by omega) (by omega)
  omega
theorem entry_one (E : Entry g M N a b k p m) (hlt : p.1.length < M) (ht : 0 < g t - conv (cntT p.1) p.2 t) (hl : ∀ s, 0 < g s - conv (cntT p.1) p.2 s → t ≤ s) (h : wout m (p.2.map ((t - b) + ·)) = some m') :
    Entry g M N a b (k + 1) (p.1 ++ [t - b], p.2) m' := by
  obtain ⟨f, e⟩ := p
  have T := wout_some E.tells h
  have less : ∀ s, 0 < g s - conv (cntT (f ++ [t - b])) e s → 0 < g s - conv (cntT f) e s := fun s hs => by
    rw [conv_snoc_one] at hs
    have := cntT_nonneg (e.map ((t - b) + ·)) s
    omega
  obtain ⟨s1, s2⟩ := wout_sum E.tells h
  have hb : b ∈ e := List.mem_of_mem_head? E.h2
  refine ⟨⟨?_, ?_⟩, E.l2, ?_, rising_more E.r1 fun y hy => ?_, E.r2, head_more E.h1, E.h2, tells_congr T fun s => ?_, fun x hx s hs => ?_, fun y hy s hs => E.low2 y hy s (less s hs), ?_, Nat.le_trans s2 E.small⟩
  · show 1 ≤ (f ++ [t - b]).length
    rw [List.length_append]
    exact Nat.le_add_left _ _
  · show (f ++ [t - b]).length ≤ M
    rw [List.length_append]
    exact hlt
  · show (f ++ [t - b]).length + e.length = k + 1 + 2
    have := E.len
    rw [List.length_append]
    show f.length + 1 + e.length = k + 1 + 2
    have : f.length + e.length = k + 2 := this
    omega
  · have := E.low1 y hy t ht
    omega
  · show g s - conv (cntT f) e s - cntT (e.map ((t - b) + ·)) s = g s - conv (cntT (f ++ [t - b])) e s
    rw [conv_snoc_one]
    omega
  · rcases List.mem_append.mp hx with hx | hx
    · exact E.low1 x hx s (less s hs)
    · rw [List.mem_singleton.mp hx]
      have := hl s (less s hs)
      omega
  · rw [s1, E.sum, List.length_map]
    show _ = ((M * N : Nat) : Int) - (((f ++ [t - b]).length * e.length : Nat) : Int)
    rw [List.length_append]
    show ((M * N : Nat) : Int) - ((f.length * e.length : Nat) : Int) - ((e.length : Nat) : Int) = ((M * N : Nat) : Int) - (((f.length + 1) * e.length : Nat) : Int)
    rw [Nat.add_mul, Nat.one_mul]
    omega
theorem entry_two (E : Entry g M N a b k p m) (hlt : p.2.length < N) (ht : 0 < g t - conv (cntT p.1) p.2 t) (hl : ∀ s, 0 < g s - conv (cntT p.1) p.2 s → t ≤ s) (h : wout m (p.1.map ((t - a) + ·)) = some m') :
    Entry g M N a b (k + 1) (p.1, p.2 ++ [t - a]) m' := by
  obtain ⟨f, e⟩ := p
  have T := wout_some E.tells h
  have less : ∀ s, 0 < g s - conv (cntT f) (e ++ [t - a]) s → 0 < g s - conv (cntT f) e s := fun s hs => by
    rw [conv_snoc_two] at hs
    have := cntT_nonneg (f.map ((t - a) + ·)) s
    omega
  obtain ⟨s1, s2⟩ := wout_sum E.tells h
  refine ⟨E.l1, ⟨?_, ?_⟩, ?_, E.r1, rising_more E.r2 fun y hy => ?_, E.h1, head_more E.h2, tells_congr T fun s => ?_, fun x hx s hs => E.low1 x hx s (less s hs), fun y hy s hs => ?_, ?_, Nat.le_trans s2 E.small⟩
  · show 1 ≤ (e ++ [t - a]).length
    rw [List.length_append]
    exact Nat.le_add_left _ _
  · show (e ++ [t - a]).length ≤ N
    rw [List.length_append]
    exact hlt
  · show f.length + (e ++ [t - a]).length = k + 1 + 2
    have := E.len
    rw [List.length_append]
    show f.length + (e.length + 1) = k + 1 + 2
    have : f.length + e.length = k + 2 := this
    omega
  · have := E.low2 y hy t ht
    omega
  · show g s - conv (cntT f) e s - cntT (f.map ((t - a) + ·)) s = g s - conv (cntT f) (e ++ [t - a]) s
    rw [conv_snoc_two]
    omega
  · rcases List.mem_append.mp hy with hy | hy
    · exact E.low2 y hy s (less s hs)
    · rw [List.mem_singleton.mp hy]
      have := hl s (less s hs)
      omega
  · rw [s1, E.sum, List.length_map]
    show _ = ((M * N : Nat) : Int) - ((f.length * (e ++ [t - a]).length : Nat) : Int)
    rw [List.length_append]
    show ((M * N : Nat) : Int) - ((f.length * e.length : Nat) : Int) - ((f.length : Nat) : Int) = ((M * N : Nat) : Int) - ((f.length * (e.length + 1) : Nat) : Int)
    rw [Nat.mul_add, Nat.mul_one]
    omega
/-- a whole pair goes on by the face that is next -/
theorem whole_step {q : Pr} {i j : Nat} (E : Entry g M N a b k p m) (Q : IsPair g M N a q) (hi : i ≤ M) (hj : j ≤ N) (hp : p = (q.1.take i, q.2.take j)) (hk : k + 2 < M + N) (ht : 0 < g t - conv (cntT p.1) p.2 t) (hl : ∀ s, 0 < g s - conv (cntT p.1) p.2 s → t ≤ s) :
    (i < M ∧ q.1.take (i + 1) = p.1 ++ [t - b] ∧ ∃ m', wout m (p.2.map ((t - b) + ·)) = Option.some m') ∨ (j < N ∧ q.2.take (j + 1) = p.2 ++ [t - a] ∧ ∃ m', wout m (p.1.map ((t - a) + ·)) = Option.some m') := by
  obtain ⟨d, e⟩ := q
  have ed : d = d.take i ++ d.drop i := (List.take_append_drop i d).symm
  have ee : e = e.take j ++ e.drop j := (List.take_append_drop j e).symm
  have hg : ∀ s, g s = conv (cntT d) e s := fun s => by
    rw [← cnt_two]
    exact (congrFun Q.cnt s).symm
  have hleft : ∀ s, g s - conv (cntT p.1) p.2 s = conv (cntT (d.drop i)) (e.take j) s + conv (cntT d) (e.drop j) s := fun s => by
    rw [hg, hp]
    have e1 : conv (cntT d) e s = conv (cntT d) (e.take j) s + conv (cntT d) (e.drop j) s := by
      rw [← conv_append, List.take_append_drop]
    have e2 : conv (cntT d) (e.take j) s = conv (cntT (d.take i)) (e.take j) s + conv (cntT (d.drop i)) (e.take j) s := by
      rw [← conv_left, List.take_append_drop]
    show conv (cntT d) e s - conv (cntT (d.take i)) (e.take j) s = _
    rw [e1, e2]
    omega
  have hd1 : d.length = M := Q.one
  have he1 : e.length = N := Q.other
  have l1 : (d.take i).length = i := by rw [List.length_take]; omega
  have l2 : (e.take j).length = j := by rw [List.length_take]; omega
  have hij : i + j = k + 2 := by
    have := E.len
    rw [hp] at this
    rw [← this, l1, l2]
  have ha : a ∈ d.take i := by
    have := E.h1
    rw [hp] at this
    exact List.mem_of_mem_head? this
  have hb : b ∈ e.take j := by
    have := E.h2
    rw [hp] at this
    exact List.mem_of_mem_head? this
  have hal : ∀ x ∈ d, a ≤ x := fun x hx => by
    have h := Q.head
    cases d with
    | nil => cases hx
    | cons y r =>
      have e : y = a := Option.some.inj h
      rcases List.mem_cons.mp hx with c | hx
      · omega
      · have := (List.pairwise_cons.mp Q.r1).1 x hx
        omega
  have hbl : ∀ y ∈ e.take j, b ≤ y := fun y hy => by
    have h := E.h2
    have r := E.r2
    rw [hp] at h r
    generalize e.take j = c at *
    cases c with
    | nil => cases hy
    | cons z r' =>
      have e : z = b := Option.some.inj h
      rcases List.mem_cons.mp hy with c | hy
      · omega
      · have := (List.pairwise_cons.mp r).1 y hy
        omega
  have ht2 := ht
  rw [hleft] at ht2
  have n1 := conv_nonneg (d.drop i) t (e.take j)
  have n2 := conv_nonneg d t (e.drop j)
  -- either part begins with the next face
  have one : 0 < conv (cntT (d.drop i)) (e.take j) t → ∃ x r, d.drop i = x :: r ∧ t = x + b := fun h => by
    obtain ⟨x, hx, y, hy, hs⟩ := conv_pos.mp h
    cases hd : d.drop i with
    | nil => rw [hd] at hx; cases hx
    | cons x0 r =>
      refine ⟨x0, r, rfl, ?_⟩
      have r1 : Rising (x0 :: r) := by
        rw [← hd]
        exact rising_right (a := d.take i) (by rw [← ed]; exact Q.r1)
      have hx0 : x0 ≤ x := by
        rw [hd] at hx
        rcases List.mem_cons.mp hx with c | hx
        · omega
        · exact (List.pairwise_cons.mp r1).1 x hx
      have hy0 := hbl y hy
      have := hl (x0 + b) (by
        rw [hleft]
        have c1 : 0 < conv (cntT (d.drop i)) (e.take j) (x0 + b) := conv_pos.mpr ⟨x0, by rw [hd]; exact List.mem_cons_self, b, hb, rfl⟩
        have c2 := conv_nonneg d (x0 + b) (e.drop j)
        omega)
      omega
  have two : 0 < conv (cntT d) (e.drop j) t → ∃ y r, e.drop j = y :: r ∧ t = a + y := fun h => by
    obtain ⟨x, hx, y, hy, hs⟩ := conv_pos.mp h
    cases hd : e.drop j with
    | nil => rw [hd] at hy; cases hy
    | cons y0 r =>
      refine ⟨y0, r, rfl, ?_⟩
      have r2 : Rising (y0 :: r) := by
        rw [← hd]
        exact rising_right (a := e.take j) (by rw [← ee]; exact Q.r2)
      have hy0 : y0 ≤ y := by
        rw [hd] at hy
        rcases List.mem_cons.mp hy with c | hy
        · omega
        · exact (List.pairwise_cons.mp r2).1 y hy
      have hx0 := hal x hx
      have := hl (a + y0) (by
        rw [hleft]
        have c1 : 0 < conv (cntT d) (e.drop j) (a + y0) := conv_pos.mpr ⟨a, List.mem_of_mem_take ha, y0, by rw [hd]; exact List.mem_cons_self, rfl⟩
        have c2 := conv_nonneg (d.drop i) (a + y0) (e.take j)
        omega)
      omega
  by_cases c : 0 < conv (cntT (d.drop i)) (e.take j) t
  · left
    obtain ⟨x, r, hd, hx⟩ := one c
    have hlt : i < d.length := by
      have := congrArg List.length hd
      rw [List.length_drop, List.length_cons] at this
      omega
    have ex : t - b = x := by omega
    have e1 : d[i]? = Option.some x := by
      have : (d.drop i)[0]? = Option.some x := by rw [hd]; rfl
      rw [List.getElem?_drop] at this
      exact this
    refine ⟨by omega, ?_, wout_there E.tells fun s => ?_⟩
    · show d.take (i + 1) = p.1 ++ [t - b]
      rw [ex, take_snoc e1, hp]
    · show cntT (p.2.map ((t - b) + ·)) s ≤ g s - conv (cntT p.1) p.2 s
      rw [hleft, ex, hp, ← conv_one, hd]
      have e3 : conv (cntT (x :: r)) (e.take j) s = conv (cntT [x]) (e.take j) s + conv (cntT r) (e.take j) s := conv_left [x] r s (e.take j)
      have c1 := conv_nonneg r s (e.take j)
      have c2 := conv_nonneg d s (e.drop j)
      show conv (cntT [x]) (e.take j) s ≤ _
      omega
  · right
    obtain ⟨y, r, hd, hx⟩ := two (by omega)
    have hlt : j < e.length := by
      have := congrArg List.length hd
      rw [List.length_drop, List.length_cons] at this
      omega
    have ex : t - a = y := by omega
    have e1 : e[j]? = Option.some y := by
      have : (e.drop j)[0]? = Option.some y := by rw [hd]; rfl
      rw [List.getElem?_drop] at this
      exact this
    refine ⟨by omega, ?_, wout_there E.tells fun s => ?_⟩
    · show e.take (j + 1) = p.2 ++ [t - a]
      rw [ex, take_snoc e1, hp]
    · show cntT (p.1.map ((t - a) + ·)) s ≤ g s - conv (cntT p.1) p.2 s
      rw [hleft, ex, hp, cntT_add, hd]
      show cntT (d.take i) (s - y) ≤ _
      have e3 : conv (cntT d) (y :: r) s = cntT d (s - y) + conv (cntT d) r s := conv_cons _ _ _ _
      have e4 : cntT d (s - y) = cntT (d.take i) (s - y) + cntT (d.drop i) (s - y) := by
        rw [← cntT_append, List.take_append_drop]
      have c0 := cntT_nonneg (d.drop i) (s - y)
      have c1 := conv_nonneg d s r
      have c2 := conv_nonneg (d.drop i) s (e.take j)
      omega
/-- nothing more to take: a pair -/
theorem entry_done (E : Entry g M N a b k p m) (hk : k + 2 = M + N) (hb : 0 ≤ b) : IsPair g M N a p := by
  obtain ⟨h1, h2⟩ := E.l1
  obtain ⟨h3, h4⟩ := E.l2
  have h5 := E.len
  have e1 : p.1.length = M := by omega
  have e2 : p.2.length = N := by omega
  have hm : m = [] := sumV_zero E.tells.pos (by rw [E.sum, e1, e2]; omega)
  refine ⟨e1, e2, E.r1, E.r2, E.h1, fun f hf => ?_, ?_⟩
  · have h := E.h2
    have r := E.r2
    generalize p.2 = c at *
    cases c with
    | nil => cases hf
    | cons z r' =>
      have e : z = b := Option.some.inj h
      rcases List.mem_cons.mp hf with c | hy
      · omega
      · have := (List.pairwise_cons.mp r).1 f hy
        omega
  · rw [cnt_two]
    funext s
    have := E.tells.look s
    rw [hm] at this
    have h0 : lookI [] s = 0 := rfl
    rw [h0] at this
    show conv (cntT p.1) p.2 s = g s
    omega
/-- the first begun pair -/
theorem entry_start {L : Int} {rows : List (Int × Int)} (T : Tells rows g) (hM : 1 ≤ M) (hN : 1 ≤ N) (hL : 0 < g L) (hl : ∀ s, 0 < g s → L ≤ s) (hs : sumV rows = ((M * N : Nat) : Int)) (hz : rows.length ≤ M * N) :
    ∃ m, wout rows [L] = Option.some m ∧ Entry g M N a (L - a) 0 ([a], [L - a]) m := by
  obtain ⟨m, hm⟩ := wout_there (ts := [L]) T fun s => by
    rw [cntT_cons]
    have := tells_nonneg T s
    have h0 : cntT [] s = 0 := rfl
    rw [h0]
    split
    · rename_i c
      rw [c]
      omega
    · omega
  have hc : ∀ s, conv (cntT [a]) [L - a] s = cntT [L] s := fun s => by
    rw [conv_one]
    have : [L - a].map (a + ·) = [L] := by
      rw [List.map_singleton]
      congr 1
      omega
    rw [this]
  have low : ∀ s, 0 < g s - conv (cntT [a]) [L - a] s → L ≤ s := fun s h => by
    have := conv_nonneg [a] s [L - a]
    exact hl s (by omega)
  obtain ⟨s1, s2⟩ := wout_sum T hm
  refine ⟨m, hm, ⟨Nat.le_refl _, hM⟩, ⟨Nat.le_refl _, hN⟩, rfl, List.pairwise_singleton _ _, List.pairwise_singleton _ _, rfl, rfl, tells_congr (wout_some T hm) fun s => ?_, fun x hx s h => ?_, fun y hy s h => ?_, ?_, Nat.le_trans s2 hz⟩
  · show g s - cntT [L] s = g s - conv (cntT [a]) [L - a] s
    rw [hc]
  · rw [List.mem_singleton.mp hx]
    have := low s h
    omega
  · rw [List.mem_singleton.mp hy]
    have := low s h
    omega
  · rw [s1, hs]
    rfl
theorem start_whole {L : Int} {q : Pr} (Q : IsPair g M N a q) (hN : 1 ≤ N) (hM : 1 ≤ M) (hL : 0 < g L) (hl : ∀ s, 0 < g s → L ≤ s) : q.1.take 1 = [a] ∧ q.2.take 1 = [L - a] := by
  obtain ⟨d, e⟩ := q
  have h := Q.head
  have h2 := Q.one
  obtain ⟨e0, he, hp, hq⟩ := pair_face Q hN (x := a) (List.mem_of_mem_head? Q.head)
  refine ⟨?_, ?_⟩
  · show d.take 1 = [a]
    cases d with
    | nil => cases h
    | cons y r =>
      have e : y = a := Option.some.inj h
      rw [e]
      rfl
  · show e.take 1 = [L - a]
    cases e with
    | nil => cases he
    | cons y r =>
      have e1 : y = e0 := Option.some.inj he
      have c1 := hl _ hp
      have c2 := hq.2 L hL
      have e2 : y = L - a := by omega
      rw [e2]
      rfl
end
/-! ### rows that are handed in, and what is told at the end -/
theorem tells_of_counts {g : Int → Int} {out : List (Int × Int)} (h : IsCounts g out) (hp : ∀ p ∈ out, 0 < p.2) : Tells out g where
  nd := counts_nodup h
  look := fun s => by
    by_cases c : lookI out s = 0
    · by_cases d : g s = 0
      · rw [c, d]
      · have := look_mem (counts_nodup h) ((h.mem s (g s)).mpr ⟨rfl, d⟩)
        exact this
    · exact ((h.mem _ _).mp (look_ne_mem c)).1
  pos := hp
theorem sumV_len : ∀ {m : List (Int × Int)}, (∀ p ∈ m, 0 < p.2) → ((m.length : Nat) : Int) ≤ sumV m
  | [], _ => Int.le_refl _
  | p :: m, h => by
    have := sumV_len (m := m) fun q hq => h q (List.mem_cons_of_mem _ hq)
    have h1 := h p List.mem_cons_self
    rw [sumV_cons, List.length_cons]
    omega
theorem rise_least {p : Int × Int} {r : List (Int × Int)} {g : Int → Int} (h : IsCounts g (p :: r)) : 0 < p.2 → 0 < g p.1 ∧ ∀ s, 0 < g s → p.1 ≤ s := fun hp => by
  have e := (h.mem p.1 p.2).mp List.mem_cons_self
  refine ⟨by rw [← e.1]; exact hp, fun s hs => ?_⟩
  have hm := (h.mem s (g s)).mpr ⟨rfl, by omega⟩
  rcases List.mem_cons.mp hm with c | c
  · rw [← c]
    exact Int.le_refl _
  · exact Int.le_of_lt ((List.pairwise_cons.mp h.rise).1 _ c)
theorem strict_of {l : List Pr} (hn : l.Nodup) (h : l.Pairwise fun x y => lxP y x = false) : l.Pairwise fun x y => lxP x y = true := by
  refine (List.pairwise_and_iff.mpr ⟨hn, h⟩).imp fun {x y} q => ?_
  cases c : lxP x y with
  | true => rfl
  | false => exact absurd (lxP_total c q.2) q.1
theorem putI_snoc {m : List (Int × Int)} {k v : Int} (h : k ∉ m.map (·.1)) : putI m k v = m ++ [(k, v)] := by
  unfold putI
  rw [if_neg]
  intro z
  obtain ⟨q, hq, e⟩ := List.any_eq_true.mp z
  exact h (List.mem_map.mpr ⟨q, hq, of_decide_eq_true e⟩)
theorem merge_ints : ∀ (r m : List (Int × Int)), ((m ++ r).map (·.1)).Nodup → mergeK (m.map entI) (r.map entI) = (m ++ r).map entI
  | [], m, _ => by
    rw [List.append_nil]
    rfl
  | p :: r, m, h => by
    have e : mergeK (m.map entI) ((p :: r).map entI) = mergeK (putK (m.map entI) (Sum.inl p.1) (.int p.2)) (r.map entI) := rfl
    have hk : p.1 ∉ m.map (·.1) := fun z => by
      rw [List.map_append, List.map_cons] at h
      exact (List.nodup_append.mp h).2.2 _ z _ List.mem_cons_self rfl
    rw [e, putK_entI, putI_snoc hk, merge_ints r (m ++ [p]) (by rw [List.append_assoc]; exact h), List.append_assoc]
    rfl
end My

/-! A comprehension over zip(xs, ys), the lists of any lengths. -/
namespace My
open PySem PySem.Spec PyProof.Rows L2
theorem take_more {α : Type} {l : List α} {i : Nat} {x : α} (h : l[i]? = some x) : l.take (i + 1) = l.take i ++ [x] := by
  rw [List.take_add_one, h]
  rfl
theorem lz_all {K : PySem.W.Frag} {a b : Addr} {xs ys : List V} {g : TG} {tt : TT} {te : TE} {vs : List Nat} {σ : L2.St} {H1 : Hp} {D : Addr} {Qd : Hp → Prop} (f : V → V → V)
    (nD : H1 D = none) (hx : H1 a = some (.lst xs)) (hy : H1 b = some (.lst ys)) (len : xs.length < 1000000)
    (hs : ∀ x y T H' (R : V → Hp → Prop), (x, y) ∈ xs.zip ys → Same H1 H' → H' T = some (.tup [x, y]) → (∀ H4, Same H' H4 → R (f x y) H4) →
      ∀ N : Hp → Prop, g (.ref T) (wipe σ vs) H' fun σ2 H2 => wipe σ2 vs = wipe σ vs ∧ tt σ2 H2 fun b H3 => if b = true then te σ2 H3 R else N H3)
    (hd : ∀ H', Same H1 H' → H' D = some (.lst ((xs.zip ys).map fun p => f p.1 p.2)) → Qd H') :
    ∃ W : Nat → Nat → Hp → Prop, (∃ m, W 0 m (upd H1 D (.lst []))) ∧ ∀ i m H, W i m H →
      ((Itz K a b).stop i H ∧ Qd H) ∨ ((Itz K a b).go i H ∧ ∃ Nx : Hp → Prop, (∀ H', Nx H' → ∃ m', m' < m ∧ W (i + 1) m' H') ∧ ∀ x H', (Itz K a b).yld i H x H' → g x (wipe σ vs) H' fun σ2 H2 => wipe σ2 vs = wipe σ vs ∧ tt σ2 H2 fun b H3 =>
        if b = true then te σ2 H3 fun y H4 => ∃ acc, H4 D = some (.lst acc) ∧ acc.length < sizeLine ∧ Nx (upd H4 D (.lst (acc ++ [y]))) else Nx H3) := by
  refine ⟨fun i m H => m + i = (xs.zip ys).length ∧ Same H1 H ∧ H D = some (.lst (((xs.zip ys).take i).map fun p => f p.1 p.2)), ⟨_, rfl, same_new nD, upd_same⟩, ?_⟩
  intro i m H q
  obtain ⟨e, p1, p2⟩ := q
  have hl : (xs.zip ys).length = min xs.length ys.length := List.length_zip
  have hxH := p1 _ _ hx
  have hyH := p1 _ _ hy
  rcases Nat.lt_or_ge i (xs.zip ys).length with hi | hi
  · right
    have i1 : i < xs.length := by omega
    have i2 : i < ys.length := by omega
    refine ⟨⟨xs, ys, xs[i], ys[i], sq_of hxH, sq_of hyH, List.getElem?_eq_getElem i1, List.getElem?_eq_getElem i2⟩,
      fun H' => (m - 1) + (i + 1) = (xs.zip ys).length ∧ Same H1 H' ∧ H' D = some (.lst (((xs.zip ys).take (i + 1)).map fun p => f p.1 p.2)), fun H' q => ⟨m - 1, by omega, q⟩, ?_⟩
    rintro v H' ⟨T, x, y, rfl, nT, rfl, gx, gy⟩
    have ex := gx _ (sq_of hxH)
    have ey := gy _ (sq_of hyH)
    have ez : (xs.zip ys)[i]? = some (x, y) := List.getElem?_zip_eq_some.mpr ⟨ex, ey⟩
    refine hs x y T _ _ (List.mem_of_getElem? ez) (p1.trans (same_new nT)) upd_same (fun H4 e4 => ?_) _
    have p3 : H4 D = some (.lst (((xs.zip ys).take i).map fun p => f p.1 p.2)) := e4 _ _ (same_new nT _ _ p2)
    refine ⟨_, p3, ?_, by omega, fun b o eb => ?_, ?_⟩
    · refine sz_lt (Nat.lt_of_le_of_lt ?_ len)
      rw [List.length_map, List.length_take]
      omega
    · rw [upd_ne (ne_of_none eb nD)]
      exact e4 _ _ (same_new nT _ _ (p1 _ _ eb))
    · rw [upd_same, take_more ez, List.map_append]
      rfl
  · left
    have e2 : (xs.zip ys).take i = xs.zip ys := List.take_of_length_le hi
    rw [e2] at p2
    exact ⟨⟨xs, ys, sq_of hxH, sq_of hyH, by omega⟩, hd H p1 p2⟩
/-- a comprehension over a list that makes a new list of whole numbers of each item that is kept -/
theorem lc_lists {K : PySem.W.Frag} {a : Addr} {xs : List V} {g : TG} {tt : TT} {te : TE} {vs : List Nat} {σ : L2.St} {H1 : Hp} {D : Addr} {Qd : Hp → Prop} (keep : V → Bool) (f : V → List Int)
    (nD : H1 D = none) (hS : SqL K H1 a xs) (len : xs.length < 1000000)
    (hs : ∀ x H' (R : V → Hp → Prop) (N : Hp → Prop), x ∈ xs → Same H1 H' → (keep x = true → ∀ H4 t, Same H' H4 → H' t = none → H4 t = some (.lst ((f x).map V.int)) → R (.ref t) H4) → (keep x = false → ∀ H4, Same H' H4 → N H4) →
      g x (wipe σ vs) H' fun σ2 H2 => wipe σ2 vs = wipe σ vs ∧ tt σ2 H2 fun b H3 => if b = true then te σ2 H3 R else N H3)
    (hd : ∀ H' qs, Same H1 H' → DiceAt H' D qs ((xs.filter keep).map f) → (∀ q ∈ qs, H1 q = none) → D ∉ qs → Qd H') :
    ∃ W : Nat → Nat → Hp → Prop, (∃ m, W 0 m (upd H1 D (.lst []))) ∧ ∀ i m H, W i m H →
      ((Itl K a).stop i H ∧ Qd H) ∨ ((Itl K a).go i H ∧ ∃ Nx : Hp → Prop, (∀ H', Nx H' → ∃ m', m' < m ∧ W (i + 1) m' H') ∧ ∀ x H', (Itl K a).yld i H x H' → g x (wipe σ vs) H' fun σ2 H2 => wipe σ2 vs = wipe σ vs ∧ tt σ2 H2 fun b H3 =>
        if b = true then te σ2 H3 fun y H4 => ∃ acc, H4 D = some (.lst acc) ∧ acc.length < sizeLine ∧ Nx (upd H4 D (.lst (acc ++ [y]))) else Nx H3) := by
  refine lc_list (K := K) (a := a) (xs := xs) (fun i H => Same H1 H ∧ ∃ qs, DiceAt H D qs (((xs.take i).filter keep).map f) ∧ (∀ q ∈ qs, H1 q = none) ∧ D ∉ qs) ⟨same_new nD, [], ⟨upd_same, .nil⟩, by simp, by simp⟩ (fun i H _ p => p.1.seq hS) ?_ ?_
  · intro i x H hi p
    obtain ⟨p1, qs, p2, p3, p4⟩ := p
    have tk : xs.take (i + 1) = xs.take i ++ [x] := take_more hi
    refine hs x H _ _ (List.mem_of_getElem? hi) p1 (fun kx H4 t e4 nt ht => ?_) (fun kx H4 e4 => ?_)
    · have p5 := p2.mono e4
      have ntD : t ≠ D := fun z => by
        rw [z, p2.1] at nt
        cases nt
      have hl : qs.length ≤ xs.length := by
        rw [paired_len p2.2, List.length_map]
        refine Nat.le_trans (List.length_filter_le _ _) ?_
        rw [List.length_take]
        exact Nat.min_le_right _ _
      refine ⟨_, p5.1, sz_lt (by rw [List.length_map]; omega), fun b o e => ?_, qs ++ [t], ⟨?_, ?_⟩, fun q hq => ?_, fun z => ?_⟩
      · rw [upd_ne (ne_of_none e nD)]
        exact e4 _ _ (p1 _ _ e)
      · rw [upd_same, List.map_append]
        rfl
      · have e5 : ((xs.take (i + 1)).filter keep).map f = ((xs.take i).filter keep).map f ++ [f x] := by
          rw [tk, List.filter_append, List.map_append]
          simp [List.filter_cons, kx]
        rw [e5]
        refine paired_snoc (paired_in p5.2 fun q ds hq r => ?_) ?_
        · rw [upd_ne fun z => p4 (by rw [← z]; exact hq)]
          exact r
        · rw [upd_ne ntD]
          exact ht
      · rcases List.mem_append.mp hq with hq | hq
        · exact p3 q hq
        · rw [List.mem_singleton.mp hq]
          exact Same.free p1 nt
      · rcases List.mem_append.mp z with z | z
        · exact p4 z
        · exact ntD (List.mem_singleton.mp z).symm
    · refine ⟨p1.trans e4, qs, ?_, p3, p4⟩
      have e5 : ((xs.take (i + 1)).filter keep).map f = ((xs.take i).filter keep).map f := by
        rw [tk, List.filter_append, List.map_append]
        simp [List.filter_cons, kx]
      rw [e5]
      exact p2.mono e4
  · intro H p
    obtain ⟨p1, qs, p2, p3, p4⟩ := p
    rw [List.take_length] at p2
    exact hd H qs p1 p2 p3 p4
/-! ### a dict asked whether it is empty: d == {}, d != {} -/
def rEqE : R2 := fun x y H Q => ∃ a b ks, x = .ref a ∧ y = .ref b ∧ H a = some (.dK ks) ∧ H b = some (.dK []) ∧ Q (.bl (decide (ks.length = 0))) H
def rNeE : R2 := fun x y H Q => ∃ a b ks, x = .ref a ∧ y = .ref b ∧ H a = some (.dK ks) ∧ H b = some (.dK []) ∧ Q (.bl (!decide (ks.length = 0))) H
theorem none_hits {A : Around} {s : Shared} {vb : List (Key × Value)} : ∀ {va : List (Key × Value)}, va.length = 0 → PySem.W.KeqHits A s vb va true
  | [], _ => .nil
  | _ :: _, h => by cases h
theorem op_eqE {X : Cx} (hu : X.A.units < cLine) : OpR X (compareOp .Eq) rEqE := by
  intro pins s σ H x y v u Q I rx ry h
  obtain ⟨a, b, ks, rfl, rfl, ea, eb, q⟩ := h
  obtain rfl : v = Value.ref a := rx
  obtain rfl : u = Value.ref b := ry
  obtain ⟨_, ya, va, ra, da⟩ := dk_of I.hok ea
  obtain ⟨_, yb, vb, rb, db⟩ := dk_of I.hok eb
  have lb : vb.length = 0 := by rw [← rb.length]; rfl
  have la : va.length = ks.length := ra.length.symm
  refine PySem.W.keq_eq (knd := mixKind X.prog X.w) (r := true) ya yb da db hu (fun e => none_hits (e.trans lb)) (fin_bl I q ?_)
  rw [lb, la, Bool.and_true]
  by_cases c : ks.length = 0
  · rw [decide_eq_true c, c]
    rfl
  · rw [decide_eq_false c]
    exact (beq_eq_false_iff_ne.mpr c).symm
theorem op_neE {X : Cx} (hu : X.A.units < cLine) : OpR X (compareOp .NotEq) rNeE := by
  intro pins s σ H x y v u Q I rx ry h
  obtain ⟨a, b, ks, rfl, rfl, ea, eb, q⟩ := h
  obtain rfl : v = Value.ref a := rx
  obtain rfl : u = Value.ref b := ry
  obtain ⟨_, ya, va, ra, da⟩ := dk_of I.hok ea
  obtain ⟨_, yb, vb, rb, db⟩ := dk_of I.hok eb
  have lb : vb.length = 0 := by rw [← rb.length]; rfl
  have la : va.length = ks.length := ra.length.symm
  refine PySem.W.keq_ne (knd := mixKind X.prog X.w) (r := true) ya yb da db hu (fun e => none_hits (e.trans lb)) (fin_bl I q ?_)
  rw [lb, la, Bool.and_true]
  by_cases c : ks.length = 0
  · rw [decide_eq_true c, c]
    rfl
  · rw [decide_eq_false c]
    show true = !(ks.length == 0)
    rw [beq_eq_false_iff_ne.mpr c]
    rfl
end My

/-! A set of pairs of dice, all unlike, in tables of 8 to 2048 places; sorted of such a set. -/
namespace My
open PySem PySem.Spec PyProof.Rows L2
/-! ### all places are met -/
/-- each place is met from each within one round; the mask is odd -/
structure Full (m : Nat) : Prop where
  odd : m % 2 = 1
  met : ∀ i j : Nat, i ≤ m → j ≤ m → ∃ k : Nat, k ≤ m ∧ lcgI m i k = j
/-- the places met so far, as the ones of a binary number -/
def metBy (m : Nat) : Nat → Nat → Nat → Nat
  | 0, _, g => g
  | n + 1, x, g => metBy m n ((x * 5 + 1) % (m + 1)) (g ||| 2 ^ x)
theorem lcgI_front (m x : Nat) : ∀ k, lcgI m ((x * 5 + 1) % (m + 1)) k = lcgI m x (k + 1)
  | 0 => rfl
  | k + 1 => by
    have ih := lcgI_front m x k
    show (lcgI m ((x * 5 + 1) % (m + 1)) k * 5 + 1) % (m + 1) = _
    rw [ih]
    rfl
theorem metBy_tells (m j : Nat) : ∀ (n x g : Nat), (metBy m n x g).testBit j = true → g.testBit j = true ∨ ∃ k, k < n ∧ lcgI m x k = j
  | 0, _, _, h => .inl h
  | n + 1, x, g, h => by
    rcases metBy_tells m j n _ _ h with c | ⟨k, hk, e⟩
    · rw [Nat.testBit_or, Bool.or_eq_true] at c
      rcases c with c | c
      · exact .inl c
      · rw [Nat.testBit_two_pow, decide_eq_true_eq] at c
        exact .inr ⟨0, Nat.succ_pos n, c⟩
    · rw [lcgI_front] at e
      exact .inr ⟨k + 1, Nat.succ_lt_succ hk, e⟩
theorem lcgI_add (m x a : Nat) : ∀ k, lcgI m (lcgI m x a) k = lcgI m x (a + k)
  | 0 => rfl
  | k + 1 => by
    have ih := lcgI_add m x a k
    show (lcgI m (lcgI m x a) k * 5 + 1) % (m + 1) = (lcgI m x (a + k) * 5 + 1) % (m + 1)
    rw [ih]
theorem full_of {m : Nat} (h1 : m % 2 = 1) (h2 : metBy m (m + 1) 0 0 = 2 ^ (m + 1) - 1) (h3 : lcgI m 0 (m + 1) = 0) : Full m := by
  have at0 : ∀ j, j ≤ m → ∃ k, k ≤ m ∧ lcgI m 0 k = j := fun j hj => by
    have t : (metBy m (m + 1) 0 0).testBit j = true := by
      rw [h2, Nat.testBit_two_pow_sub_one, decide_eq_true_eq]
      omega
    rcases metBy_tells m j _ _ _ t with c | ⟨k, hk, e⟩
    · rw [Nat.zero_testBit] at c
      cases c
    · exact ⟨k, by omega, e⟩
  refine ⟨h1, fun i j hi hj => ?_⟩
  obtain ⟨a, ha, rfl⟩ := at0 i hi
  obtain ⟨b, hb, rfl⟩ := at0 j hj
  by_cases c : a ≤ b
  · exact ⟨b - a, by omega, by rw [lcgI_add]; congr 1; omega⟩
  · refine ⟨m + 1 + b - a, by omega, ?_⟩
    have e : lcgI m 0 (m + 1 + b) = lcgI m 0 b := by rw [← lcgI_add, h3]
    rw [lcgI_add, ← e]
    congr 1
    omega
theorem full_7 : Full 7 := full_of rfl (by decide +kernel) (by decide +kernel)
theorem full_31 : Full 31 := full_of rfl (by decide +kernel) (by decide +kernel)
theorem full_127 : Full 127 := full_of rfl (by decide +kernel) (by decide +kernel)
theorem full_511 : Full 511 := full_of rfl (by decide +kernel) (by decide +kernel)
theorem full_2047 : Full 2047 := full_of rfl (by decide +kernel) (by decide +kernel)
/-! ### the table: where its members sit, rising; no traces of what was taken out -/
structure Tab (t : SetTable) (n : Nat) : Prop where
  ris : Ris t.place.toList
  dm : t.dummies = #[]
  sz : t.place.size = n
  full : Full t.mask
theorem stay_in (m : Nat) (h : Int) (k : Nat) : way m h k ≤ m := by
  have b : SetTable.bits h % (m + 1) < m + 1 := Nat.mod_lt _ (Nat.succ_pos m)
  have e := (runEnd_bd (Nat.le_of_lt_succ b)).1
  have lo := runEnd_ge m (SetTable.bits h % (m + 1))
  have := nth_in (m := m) k (runAt m (SetTable.bits h % (m + 1)) (SetTable.bits h)) (by
    show SetTable.bits h % (m + 1) + (SetTable.runEnd m (SetTable.bits h % (m + 1)) - SetTable.bits h % (m + 1)) ≤ m
    rw [Nat.add_sub_cancel' lo]
    exact e)
  exact Nat.le_trans (Nat.le_add_right _ _) this
/-- from the thirteenth leap on nothing is left of the hash: all places begin a run -/
theorem begins {m : Nat} (F : Full m) (h : Int) {j : Nat} (hj : j ≤ m) : ∃ n, n ≤ m + 12 ∧ runI m (SetTable.bits h) n = j := by
  obtain ⟨k, hk, e⟩ := F.met _ j (runI_le m (SetTable.bits h) 12) hj
  refine ⟨12 + k, by omega, ?_⟩
  rw [runI_tail (bits_lt h), e]
theorem comes_by {m : Nat} (F : Full m) (h : Int) {j : Nat} (hj : j ≤ m) : ∃ k, k < 10 * SetTable.turns m ∧ way m h k = j := by
  obtain ⟨n, hn, e⟩ := begins F h hj
  obtain ⟨k, hk, e2⟩ := run_nth m (SetTable.bits h) n
  refine ⟨k, ?_, ?_⟩
  · show k < 10 * (m + 15)
    omega
  · unfold way
    rw [e2]
    exact e
/-- where the hash's way first comes to an empty place -/
theorem Tab.empty {t : SetTable} {n : Nat} (T : Tab t n) (room : n ≤ t.mask) (h : Int) :
    ∃ K, K < 10 * SetTable.turns t.mask ∧ way t.mask h K ∉ t.place.toList ∧ ∀ c, c < K → way t.mask h c ∈ t.place.toList := by
  have few : t.place.toList.length < t.mask + 1 := by rw [Array.length_toList, T.sz]; omega
  obtain ⟨j, hj, out⟩ := st_missing _ _ few
  obtain ⟨c, hc, e⟩ := comes_by T.full h (Nat.le_of_lt_succ hj)
  obtain ⟨K, a1, a2, a3⟩ := st_least (p := fun c => way t.mask h c ∉ t.place.toList) c (by rw [← e] at out; exact out)
  exact ⟨K, by omega, a2, fun c hc => Classical.not_not.mp (a3 c hc)⟩
/-- one more is put at an empty place -/
theorem Tab.one {t : SetTable} {n j : Nat} (T : Tab t n) (out : j ∉ t.place.toList) :
    Tab (t.put j).1 (n + 1) ∧ (t.put j).2 = SetTable.below t.place j ∧ SetTable.below t.place j ≤ n ∧ (t.put j).1.mask = t.mask ∧ (t.put j).1.led = t.led ∧ (t.put j).1.plain = t.plain ∧ (t.put j).1.fill = n + 1 := by
  have lo : SetTable.below t.place j ≤ t.place.size := (below_cut T.ris j).1
  have no : ¬ t.place[SetTable.below t.place j]? = some j := fun z => out (by
    rw [← Array.getElem?_toList] at z
    exact List.mem_of_getElem? z)
  have sz : (t.put j).1.place.size = n + 1 := by
    have := congrArg List.length (put_place t j)
    rw [len_ins _ (by rw [Array.length_toList]; exact lo), Array.length_toList, Array.length_toList, T.sz] at this
    exact this
  have dm := put_dm T.dm j
  refine ⟨⟨ris_insert T.ris no, dm, sz, T.full⟩, rfl, by rw [← T.sz]; exact lo, rfl, rfl, rfl, ?_⟩
  unfold SetTable.fill
  rw [sz, dm]
  rfl
/-! ### laying anew -/
/-- who sits where, when n have been seated: all of them, at n places -/
structure Seat (m n : Nat) (owner : Array (Option Nat)) : Prop where
  sz : owner.size = m + 1
  all : ∀ k, k < n → ∃ j, j ≤ m ∧ oAt owner j = some k
  few : ∃ js : List Nat, js.length = n ∧ ∀ j, j ≤ m → oAt owner j ≠ none → j ∈ js
theorem seat_none (m : Nat) : Seat m 0 (Array.replicate (m + 1) none) :=
  ⟨Array.size_replicate, fun k hk => absurd hk (Nat.not_lt_zero k), [], rfl, fun j hj ne => absurd (oAt_init hj) ne⟩
theorem finds_one {m : Nat} (F : Full m) (owner : Array (Option Nat)) (h : Int) {j0 : Nat} (hj : j0 ≤ m) (free : oAt owner j0 = none) :
    ∃ j, j ≤ m ∧ SetTable.layClean.free m owner (SetTable.turns m) (SetTable.bits h % (m + 1)) (SetTable.bits h) = some j ∧ oAt owner j = none := by
  obtain ⟨n, hn, e⟩ := begins F h hj
  have hw : way m h (off m (SetTable.bits h % (m + 1)) (SetTable.bits h) n) = j0 := by
    unfold way
    rw [nth_off, itL_run]
    exact e
  obtain ⟨K, a1, a2, a3⟩ := st_least (p := fun c => oAt owner (way m h c) = none) (off m (SetTable.bits h % (m + 1)) (SetTable.bits h) n) (by rw [← hw] at free; exact free)
  refine ⟨_, stay_in m h K, free_spec m owner _ n _ _ K (by show n < m + 15; omega) a1 (fun c hc => ?_) ?_, a2⟩
  · rw [Option.isNone_eq_false_iff, Option.isSome_iff_ne_none]
    exact a3 c hc
  · rw [Option.isNone_iff_eq_none]
    exact a2
theorem Seat.next {m n : Nat} {owner : Array (Option Nat)} (S : Seat m n owner) (F : Full m) (room : n ≤ m) (h : Int) : ∃ owner', stepF m (some (owner, n)) h = some (owner', n + 1) ∧ Seat m (n + 1) owner' := by
  obtain ⟨js, jl, jall⟩ := S.few
  obtain ⟨j0, hj0, out⟩ := st_missing js (m + 1) (by omega)
  have free0 : oAt owner j0 = none := Classical.byContradiction fun z => out (jall j0 (Nat.le_of_lt_succ hj0) z)
  obtain ⟨j, hj, e, free⟩ := finds_one F owner h (Nat.le_of_lt_succ hj0) free0
  have self := oAt_set_self (owner := owner) (some n) (show j < owner.size by rw [S.sz]; omega)
  refine ⟨_, stepF_some e, by rw [Array.size_setIfInBounds]; exact S.sz, fun k hk => ?_, j :: js, by rw [List.length_cons, jl], fun i hi ne => ?_⟩
  · by_cases c : k = n
    · exact ⟨j, hj, by rw [self, c]⟩
    · obtain ⟨i, hi, ei⟩ := S.all k (by omega)
      refine ⟨i, hi, ?_⟩
      rw [oAt_set_ne _ (fun z => by rw [z, free] at ei; cases ei)]
      exact ei
  · by_cases c : i = j
    · rw [c]
      exact List.mem_cons_self
    · rw [oAt_set_ne _ c] at ne
      exact List.mem_cons_of_mem _ (jall i hi ne)
theorem seat_all {m : Nat} (F : Full m) : ∀ (hs : List Int) (n : Nat) (owner : Array (Option Nat)), Seat m n owner → n + hs.length ≤ m → ∃ owner', hs.foldl (stepF m) (some (owner, n)) = some (owner', n + hs.length) ∧ Seat m (n + hs.length) owner'
  | [], n, owner, S, _ => ⟨owner, rfl, S⟩
  | h :: hs, n, owner, S, room => by
    rw [List.length_cons] at room
    obtain ⟨o1, e1, S1⟩ := S.next F (by omega) h
    obtain ⟨o2, e2, S2⟩ := seat_all F hs (n + 1) o1 S1 (by omega)
    have ez : n + 1 + hs.length = n + (h :: hs).length := by rw [List.length_cons]; omega
    rw [ez] at e2 S2
    exact ⟨o2, by rw [List.foldl_cons, e1]; exact e2, S2⟩
/-- the larger table: the same members in another order -/
theorem laid_anew (t : SetTable) {hs : Array Int} {wanted M : Nat} (hw : SetTable.sizeAbove wanted - 1 = M) (F : Full M) (room : hs.size ≤ M) :
    ∃ t' order, t.relaid hs wanted = some (t', order) ∧ order.toList.Perm (List.range hs.size) ∧ Tab t' hs.size ∧ t'.mask = M ∧ t'.led = t.led ∧ t'.plain = t.plain := by
  obtain ⟨owner, e, S⟩ := seat_all F hs.toList 0 _ (seat_none M) (by rw [Array.length_toList]; omega)
  rw [Nat.zero_add, Array.length_toList] at e S
  have live := ris_live (fun j => owner.getD j none) (List.range (M + 1)) List.pairwise_lt_range
  have rs : Ris ((liveOf M owner).map (·.1)) := live.1
  have un : ((liveOf M owner).map (·.1)).Nodup := rs.imp fun lt => Nat.ne_of_lt lt
  have n1 : (liveOf M owner).length ≤ hs.size := by
    obtain ⟨js, jl, jall⟩ := S.few
    have := nat_nodup_len _ js un fun x hx => by
      obtain ⟨⟨a, k⟩, hm, rfl⟩ := List.mem_map.mp hx
      obtain ⟨ha, hk⟩ := (mem_live S.sz).mp hm
      exact jall a ha (by rw [hk]; exact Option.some_ne_none k)
    rw [List.length_map, jl] at this
    exact this
  have got : ∀ k, k < hs.size → k ∈ (liveOf M owner).map (·.2) := fun k hk => by
    obtain ⟨j, hj, ej⟩ := S.all k hk
    exact List.mem_map.mpr ⟨(j, k), (mem_live S.sz).mpr ⟨hj, ej⟩, rfl⟩
  have n2 : hs.size ≤ (liveOf M owner).length := by
    have := nat_nodup_len (List.range hs.size) _ List.nodup_range fun x hx => got x (List.mem_range.mp hx)
    rw [List.length_range, List.length_map] at this
    exact this
  have len : (liveOf M owner).length = hs.size := Nat.le_antisymm n1 n2
  refine ⟨tabOf t M owner, _, ?_, perm_range hs.size ((liveOf M owner).map (·.2)) (by rw [List.length_map]; exact len) got, ⟨rs, rfl, ?_, F⟩, rfl, rfl, rfl⟩
  · rw [relaid_eq, hw, layClean_eq, e]
    rfl
  · show ((liveOf M owner).map (·.1)).toArray.size = hs.size
    rw [List.size_toArray, List.length_map, len]
/-! ### what a set asks of a pair of dice -/
/-- at a stands the pair p -/
abbrev PairIs (P : Program) (w : World) (h : Heap) (p : Pr) (a : Addr) : Prop := (nestedKind P w).is h (nkP p) a
abbrev phash (P : Program) (w : World) (p : Pr) : Int := (nestedKind P w).hash (nkP p)
/-- to n levels no class of the program's -/
def Plain (P : Program) (w : World) (n : Nat) (s : Shared) (v : Value) : Prop := ∀ (A : Around) (E : Value → Shared → Prop) (Q : Bool → Shared → Prop), Q false s → wpAny (model P w) A (ofAClassStatement n v) Q E s
/-- to n levels hashed by value -/
def ByVal (P : Program) (w : World) (n : Nat) (s : Shared) (v : Value) : Prop := ∀ (A : Around) (E : Value → Shared → Prop) (Q : Bool → Shared → Prop), Q true s → wpAny (model P w) A (hashByValue n v) Q E s
section
variable {P : Program} {w : World} {s : Shared}
theorem plain_num {n : Nat} {i : Int} {v : Value} (h : NestedIs s.heap (.num i) v) : Plain P w n s v := fun A E Q q => by
  cases h <;> cases n <;> exact wpAny_pure q
theorem byVal_num {n : Nat} {i : Int} {v : Value} (h : NestedIs s.heap (.num i) v) : ByVal P w n s v := fun A E Q q => by
  cases h <;> cases n <;> exact wpAny_pure q
theorem plain_tup {n : Nat} {ks : List NestedKey} {v : Value} (h : NestedIs s.heap (.tup ks) v) (each : ∀ k ∈ ks, ∀ u, NestedIs s.heap k u → Plain P w n s u) : Plain P w (n + 1) s v := fun A E Q q => by
  cases h with
  | @tup b o vs m _ ho hc hd hall =>
    have all : ∀ {ks : List NestedKey} {us : List Value}, NestedAll s.heap ks us → (∀ k ∈ ks, ∀ u, NestedIs s.heap k u → Plain P w n s u) → ∀ u ∈ us, Plain P w n s u := by
      intro ks us hn
      induction us generalizing ks with
      | nil => exact fun _ u hu => nomatch hu
      | cons u us ih =>
        intro hp y hy
        cases hn with
        | cons h1 h2 =>
          rcases List.mem_cons.mp hy with z | z
          · rw [z]
            exact hp _ List.mem_cons_self u h1
          · exact ih h2 (fun k hk => hp k (List.mem_cons_of_mem _ hk)) y z
    unfold ofAClassStatement
    refine wpAny_bind (wpAny_typeOf (show s.TypeIs (.ref b) "tuple" from ⟨o, ho, hc⟩) ?_)
    dsimp only
    rw [if_pos (by decide)]
    refine wpAny_bind (wpAny_pure ?_)
    rw [if_neg (by decide)]
    try refine wpAny_bind (wpAny_pure ?_)
    refine wpAny_bind (wpAny_seqItems ho hd ?_)
    dsimp only
    refine wpAny_bind ?_
    show wpAny _ _ (forIn vs _ _) _ _ s
    rw [← Array.forIn_toList]
    refine wpAny_forIn_list _ (fun more g s2 => g.1 = none ∧ s2 = s ∧ ∀ u ∈ more, Plain P w n s u) _ ?_ ?_ _ _ ⟨rfl, rfl, all hall each⟩
    · rintro u more g s2 ⟨hg, rfl, pl⟩
      refine wpAny_bind (pl u List.mem_cons_self A E _ ?_)
      rw [if_neg Bool.false_ne_true]
      exact wpAny_pure ⟨rfl, rfl, fun y hy => pl y (List.mem_cons_of_mem u hy)⟩
    · rintro ⟨g1, g2⟩ s2 ⟨hg, rfl, _⟩
      obtain rfl : g1 = none := hg
      exact wpAny_pure q
theorem byVal_tup {n : Nat} {ks : List NestedKey} {v : Value} (h : NestedIs s.heap (.tup ks) v) (each : ∀ k ∈ ks, ∀ u, NestedIs s.heap k u → ByVal P w n s u) : ByVal P w (n + 1) s v := fun A E Q q => by
  cases h with
  | @tup b o vs m _ ho hc hd hall =>
    have all : ∀ {ks : List NestedKey} {us : List Value}, NestedAll s.heap ks us → (∀ k ∈ ks, ∀ u, NestedIs s.heap k u → ByVal P w n s u) → ∀ u ∈ us, ByVal P w n s u := by
      intro ks us hn
      induction us generalizing ks with
      | nil => exact fun _ u hu => nomatch hu
      | cons u us ih =>
        intro hp y hy
        cases hn with
        | cons h1 h2 =>
          rcases List.mem_cons.mp hy with z | z
          · rw [z]
            exact hp _ List.mem_cons_self u h1
          · exact ih h2 (fun k hk => hp k (List.mem_cons_of_mem _ hk)) y z
    unfold hashByValue
    refine wpAny_bind (wpAny_specialOf (show s.TypeIs (.ref b) "tuple" from ⟨o, ho, hc⟩) F.slot_tuple_hash.lookup ?_)
    show wpAny _ _ (seqItems? (.ref b) >>= _) _ _ s
    refine wpAny_bind (wpAny_seqItems ho hd ?_)
    refine wpAny_bind ?_
    show wpAny _ _ (forIn vs _ _) _ _ s
    rw [← Array.forIn_toList]
    refine wpAny_forIn_list _ (fun more g s2 => g.1 = none ∧ s2 = s ∧ ∀ u ∈ more, ByVal P w n s u) _ ?_ ?_ _ _ ⟨rfl, rfl, all hall each⟩
    · rintro u more g s2 ⟨hg, rfl, pl⟩
      refine wpAny_bind (pl u List.mem_cons_self A E _ ?_)
      rw [if_neg (by decide)]
      exact wpAny_pure ⟨rfl, rfl, fun y hy => pl y (List.mem_cons_of_mem u hy)⟩
    · rintro ⟨g1, g2⟩ s2 ⟨hg, rfl, _⟩
      obtain rfl : g1 = none := hg
      exact wpAny_pure q
theorem in_row {l : List Int} {k : NestedKey} (h : k ∈ l.map NestedKey.num) : ∃ i, k = .num i := by
  obtain ⟨i, _, e⟩ := List.mem_map.mp h
  exact ⟨i, e.symm⟩
theorem in_pair {p : Pr} {k : NestedKey} (h : k ∈ [nkL p.1, nkL p.2]) : ∃ l : List Int, k = .tup (l.map NestedKey.num) := by
  rcases List.mem_cons.mp h with c | c
  · exact ⟨_, c⟩
  · exact ⟨_, List.mem_singleton.mp c⟩
theorem plain_pair {p : Pr} {a : Addr} (h : PairIs P w s.heap p a) : Plain P w 8 s (.ref a) := plain_tup h.1 fun k hk u hu => by
  obtain ⟨l, rfl⟩ := in_pair hk
  refine plain_tup hu fun k2 hk2 u2 hu2 => ?_
  obtain ⟨i, rfl⟩ := in_row hk2
  exact plain_num hu2
theorem byVal_pair {p : Pr} {a : Addr} (h : PairIs P w s.heap p a) : ByVal P w 8 s (.ref a) := byVal_tup h.1 fun k hk u hu => by
  obtain ⟨l, rfl⟩ := in_pair hk
  refine byVal_tup hu fun k2 hk2 u2 hu2 => ?_
  obtain ⟨i, rfl⟩ := in_row hk2
  exact byVal_num hu2
variable {A : Around} {E : Value → Shared → Prop}
/-- among pairs of dice a search shows nothing -/
theorem unseen {p : Pr} {x : Addr} (hx : PairIs P w s.heap p x) {ys : List Value} (hy : ∀ y ∈ ys, ∃ (p2 : Pr) (b : Addr), y = .ref b ∧ PairIs P w s.heap p2 b) {Q : Bool → Shared → Prop} (q : Q false s) :
    wpAny (model P w) A (searchCouldBeSeen (.ref x) ys) Q E s := by
  unfold searchCouldBeSeen
  refine wpAny_bind (wpAny_forIn_list _ (fun more g s2 => g.1 = none ∧ s2 = s ∧ ∀ y ∈ more, ∃ (p2 : Pr) (b : Addr), y = .ref b ∧ PairIs P w s.heap p2 b) _ ?_ ?_ _ _ ⟨rfl, rfl, hy⟩)
  · rintro y more g s2 ⟨hg, rfl, pl⟩
    have pl2 := fun y2 (h2 : y2 ∈ more) => pl y2 (List.mem_cons_of_mem _ h2)
    obtain ⟨p2, b, rfl, hb⟩ := pl y List.mem_cons_self
    dsimp only
    by_cases c : (x == b || (carriedByValue (.ref x) && carriedByValue (.ref b))) = true
    · exact wp_if_pos c (wpAny_pure ⟨rfl, rfl, pl2⟩)
    · refine wp_if_neg c (wpAny_bind ((nestedKind P w).quiet hx ?_))
      rw [if_neg (by decide)]
      refine wpAny_bind ((nestedKind P w).quiet hb ?_)
      rw [if_neg (by decide)]
      refine wpAny_bind (plain_pair hx A E _ ?_)
      rw [if_neg (by decide)]
      refine wpAny_bind (plain_pair hb A E _ ?_)
      rw [if_neg (by decide)]
      exact wpAny_pure ⟨rfl, rfl, pl2⟩
  · rintro ⟨g1, g2⟩ s2 ⟨hg, rfl, _⟩
    obtain rfl : g1 = none := hg
    exact wpAny_pure q
end
/-! ### the set -/
/-- the members as the table's rows -/
def rowsP (P : Program) (w : World) (L : List (Addr × Pr)) : List (Int × Value) := L.map fun x => (phash P w x.2, .ref x.1)
/-- the set at a, its members L in the table's order -/
structure SetIs (P : Program) (w : World) (h : Heap) (a : Addr) (L : List (Addr × Pr)) (es : Array (Int × Value)) (ep : Nat) (t : SetTable) : Prop where
  obj : ∃ o, h.get? a = some o ∧ o.ExactSet ∧ o.data = .set es ep t
  rows : es.toList = rowsP P w L
  tab : Tab t L.length
  un : (L.map (·.2)).Nodup
  plain : t.plain = true
  led : w.params.followText "set-order" = true ∨ t.led = true
  room : L.length * 5 < t.mask * 3
section
variable {P : Program} {w : World} {A : Around} {E : Value → Shared → Prop} {s : Shared} {a : Addr} {L : List (Addr × Pr)} {es : Array (Int × Value)} {ep : Nat} {t : SetTable}
theorem rows_size (h : es.toList = rowsP P w L) : es.size = L.length := by
  rw [← Array.length_toList, h]
  exact List.length_map _
theorem rows_at (h : es.toList = rowsP P w L) {i : Nat} {x : Addr × Pr} (hx : L[i]? = some x) : es[i]? = some (phash P w x.2, .ref x.1) := by
  have : es.toList[i]? = some (phash P w x.2, .ref x.1) := by rw [h, rowsP, List.getElem?_map, hx, Option.map_some]
  rw [Array.getElem?_toList] at this
  exact this
theorem fits_of {n : Nat} (T : Tab t n) (room : n ≤ t.mask) : t.fits n = true := by
  unfold SetTable.fits SetTable.fill
  rw [T.dm, T.sz]
  simp only [beq_self_eq_true, Bool.true_and, decide_eq_true_eq]
  exact room
theorem SetIs.fits (S : SetIs P w s.heap a L es ep t) : t.fits es.size = true := by
  rw [rows_size S.rows]
  exact fits_of S.tab (by have := S.room; omega)
theorem nth_dummy (m : Nat) : ∀ (c : Nat) (p : SetTable.Probe), p.dummy = none → (nth m p c).dummy = none
  | 0, _, e => e
  | c + 1, p, e => nth_dummy m c (adv m p) (by
    unfold adv
    split
    · exact e
    · exact e)
/-- the way of a hash, from its beginning -/
abbrev going (m : Nat) (h : Int) (c : Nat) : SetTable.Probe := nth m (runAt m (SetTable.bits h % (m + 1)) (SetTable.bits h)) c
theorem going_on (m : Nat) (h : Int) (c q : Nat) : nth m (going m h c) q = going m h (c + q) := (nth_add m c _ q).symm
/-- looking for what is none of the members: to the first empty place -/
theorem seek_new (S : SetIs P w s.heap a L es ep t) (tup : ∀ x ∈ L, PairIs P w s.heap x.2 x.1) {x : Addr} {p : Pr} (hx : PairIs P w s.heap p x) (new : p ∉ L.map (·.2)) (hu : A.units + 8 < cLine) {K : Nat}
    (hK : K < 10 * SetTable.turns t.mask) (out : way t.mask (phash P w p) K ∉ t.place.toList) (occ : ∀ c, c < K → way t.mask (phash P w p) c ∈ t.place.toList) {Q : SetFound → Shared → Prop} (q : Q (.free (way t.mask (phash P w p) K) false) s) :
    ∀ (f c : Nat) (stand : Option SetTable.Probe), stand.getD (t.probeStart (phash P w p)) = going t.mask (phash P w p) c → c ≤ K → K - c < f → wpAny (model P w) A (setSearchFrom a (.ref x) (phash P w p) true f stand) Q E s
  | 0, c, stand, _, _, hf => absurd hf (Nat.not_lt_zero _)
  | f + 1, c, stand, es0, hc, hf => by
    obtain ⟨o, ho, hex, hd⟩ := S.obj
    rw [setSearchFrom_succ]
    refine wpAny_bind (wpAny_setState_of ho hd S.fits ?_)
    dsimp only
    have gw : ¬ t.gaveWay = true := by
      unfold SetTable.gaveWay
      rw [S.tab.full.odd]
      decide
    refine wp_if_neg gw ?_
    try refine wpAny_bind (wpAny_pure ?_)
    rcases go_spec t S.tab.ris S.tab.dm (fun i => (es[i]?.map (·.1)).getD 0) (phash P w p) (10 * SetTable.turns t.mask) (K - c) (going t.mask (phash P w p) c) (nth_dummy _ _ _ rfl) (by omega)
        (fun k hk => by rw [going_on]; exact occ (c + k) (by omega)) (by rw [going_on, Nat.add_sub_cancel' hc]; exact out) with ⟨k, i, hk, hi, _, _, e⟩ | ⟨_, e⟩
    · have pr : t.probe (fun i => (es[i]?.map (·.1)).getD 0) (phash P w p) (stand.getD (t.probeStart (phash P w p))) = some (.candidate (going t.mask (phash P w p) (c + k)).j i (going t.mask (phash P w p) (c + (k + 1)))) := by
        rw [es0, ← going_on, ← going_on]
        exact e
      rw [going_on] at hi
      rw [pr]
      dsimp only
      have hl : i < L.length := by
        have lt := (List.getElem?_eq_some_iff.mp hi).1
        rw [Array.length_toList, S.tab.sz] at lt
        exact lt
      have hy : L[i]? = some L[i] := List.getElem?_eq_getElem hl
      generalize L[i] = y at hy
      have ym : y ∈ L := List.mem_of_getElem? hy
      have yp := tup y ym
      have ne : ¬ y.2 = p := fun z => new (List.mem_map.mpr ⟨y, ym, z⟩)
      have ye := rows_at S.rows hy
      have rest : wpAny (model P w) A (searchRest a (.ref x) (phash P w p) true f es t (going t.mask (phash P w p) (c + k)).j i (going t.mask (phash P w p) (c + (k + 1)))) Q E s := by
        unfold searchRest
        rw [ye]
        dsimp only
        refine wpAny_bind (wpAny_holding ((nestedKind P w).eqBool hu yp hx ?_))
        have no : decide (nkP y.2 = nkP p) = false := decide_eq_false fun z => ne (nkP_inj z)
        rw [no]
        refine wpAny_bind (wpAny_setState_of ho hd S.fits ?_)
        dsimp only
        refine wp_if_neg (by decide) ?_
        try refine wpAny_bind (wpAny_pure ?_)
        rw [sameMem]
        dsimp only
        have live : t.slot (going t.mask (phash P w p) (c + k)).j = .live i := slot_live S.tab.ris hi
        simp only [if_true, live, ye]
        refine wpAny_bind (wpAny_isSame_ref_self (wpAny_bind (wpAny_pure ?_)))
        simp only [if_true]
        refine wp_if_neg (by decide) ?_
        exact seek_new S tup hx new hu hK out occ q f (c + (k + 1)) _ rfl (by omega) (by omega)
      cases hled : t.led with
      | true =>
        refine wp_if_neg (by decide) ?_
        try refine wpAny_bind (wpAny_pure ?_)
        exact rest
      | false =>
        refine wp_if_pos (by decide) ?_
        refine wpAny_bind (unseen hx (fun z hz => ?_) ?_)
        · obtain ⟨⟨z1, z2⟩, hz1, rfl⟩ := List.mem_map.mp hz
          have hz2 : (z1, z2) ∈ es.toList := by
            rw [Array.toList_filter] at hz1
            exact (List.mem_filter.mp hz1).1
          rw [S.rows] at hz2
          obtain ⟨u, hu1, hu2⟩ := List.mem_map.mp hz2
          have e2 : Value.ref u.1 = z2 := congrArg Prod.snd hu2
          exact ⟨u.2, u.1, e2.symm, tup u hu1⟩
        · refine wp_if_neg (by decide) ?_
          try refine wpAny_bind (wpAny_pure ?_)
          exact rest
    · have pr : t.probe (fun i => (es[i]?.map (·.1)).getD 0) (phash P w p) (stand.getD (t.probeStart (phash P w p))) = some (.empty (way t.mask (phash P w p) K) none) := by
        rw [es0]
        rw [going_on, Nat.add_sub_cancel' hc] at e
        exact e
      rw [pr]
      dsimp only
      exact wpAny_pure q
theorem search_new (S : SetIs P w s.heap a L es ep t) (tup : ∀ x ∈ L, PairIs P w s.heap x.2 x.1) {x : Addr} {p : Pr} (hx : PairIs P w s.heap p x) (new : p ∉ L.map (·.2)) (hu : A.units + 8 < cLine) (hm : t.mask ≤ 2047) {Q : SetFound → Shared → Prop}
    (q : ∀ j, j ∉ t.place.toList → Q (.free j false) s) : wpAny (model P w) A (setSearch a (.ref x) (phash P w p) true) Q E s := by
  obtain ⟨K, a1, a2, a3⟩ := S.tab.empty (by have := S.room; omega) (phash P w p)
  have few : K < 100000 := by
    have : 10 * SetTable.turns t.mask = 10 * (t.mask + 15) := rfl
    omega
  unfold setSearch
  exact seek_new S tup hx new hu a1 a2 a3 (q _ a2) 100000 0 none rfl (Nat.zero_le K) (by omega)
end
/-! ### one more member -/
theorem range_reads {α : Type} : ∀ L : List α, ((List.range L.length).filterMap fun i => L[i]?) = L
  | [] => rfl
  | x :: L => by
    rw [List.length_cons, List.range_succ_eq_map, List.filterMap_cons_some (f := fun i => (x :: L)[i]?) (b := x) rfl, List.filterMap_map]
    exact congrArg (x :: ·) (range_reads L)
theorem rows_moved {P : Program} {w : World} {L : List (Addr × Pr)} {es : Array (Int × Value)} {order : Array Nat} (h : es.toList = rowsP P w L) (hp : order.toList.Perm (List.range L.length)) :
    ∃ L2, (order.filterMap fun i => es[i]?).toList = rowsP P w L2 ∧ L2.Perm L := by
  refine ⟨order.toList.filterMap fun i => L[i]?, ?_, ?_⟩
  · rw [Array.toList_filterMap, rowsP, List.map_filterMap]
    refine congrArg (fun g => order.toList.filterMap g) (funext fun i => ?_)
    rw [← Array.getElem?_toList, h, rowsP, List.getElem?_map]
  · have := hp.filterMap fun i => L[i]?
    rw [range_reads] at this
    exact this
/-- the masks of the tables that come -/
def Mask5 (m : Nat) : Prop := m = 7 ∨ m = 31 ∨ m = 127 ∨ m = 511 ∨ m = 2047
theorem up_5 : SetTable.sizeAbove (SetTable.grown 5) - 1 = 31 := by decide +kernel
theorem up_19 : SetTable.sizeAbove (SetTable.grown 19) - 1 = 127 := by decide +kernel
theorem up_77 : SetTable.sizeAbove (SetTable.grown 77) - 1 = 511 := by decide +kernel
theorem up_307 : SetTable.sizeAbove (SetTable.grown 307) - 1 = 2047 := by decide +kernel
/-- a table that is too full, and the next -/
theorem grows {m n : Nat} (hm : Mask5 m) (room : n * 5 < m * 3) (full : (n + 1) * 5 ≥ m * 3) (few : n < 1228) :
    ∃ M, SetTable.sizeAbove (SetTable.grown (n + 1)) - 1 = M ∧ Full M ∧ Mask5 M ∧ (n + 1) * 5 < M * 3 ∧ M ≤ 2047 := by
  rcases hm with e | e | e | e | e <;> subst e
  · obtain rfl : n = 4 := by omega
    exact ⟨31, up_5, full_31, .inr (.inl rfl), by decide, by decide⟩
  · obtain rfl : n = 18 := by omega
    exact ⟨127, up_19, full_127, .inr (.inr (.inl rfl)), by decide, by decide⟩
  · obtain rfl : n = 76 := by omega
    exact ⟨511, up_77, full_511, .inr (.inr (.inr (.inl rfl))), by decide, by decide⟩
  · obtain rfl : n = 306 := by omega
    exact ⟨2047, up_307, full_2047, .inr (.inr (.inr (.inr rfl))), by decide, by decide⟩
  · omega
theorem Mask5.le {m : Nat} (h : Mask5 m) : m ≤ 2047 := by
  rcases h with e | e | e | e | e <;> omega
section
variable {P : Program} {w : World} {A : Around} {E : Value → Shared → Prop} {s : Shared} {a : Addr} {L : List (Addr × Pr)} {es : Array (Int × Value)} {ep : Nat} {t : SetTable}
/-- where the set is written anew a pair of dice stays -/
theorem pair_same {h h' : Heap} {p : Pr} {b : Addr} {o : Obj} (hb : PairIs P w h p b) (ho : h.get? a = some o) (hd : o.data = .set es ep t) (sb : Heap.SameBut a h h') : PairIs P w h' p b := by
  refine ⟨NestedIs.at (fun c u vs n hc hs => ?_) _ _ hb.1, hb.2⟩
  have ne : c ≠ a := by
    rintro rfl
    rw [ho] at hc
    cases hc
    rw [hd] at hs
    cases hs
  rw [sb.2 c ne]
  exact hc
theorem relay_new {o : Obj} (ho : s.heap.get? a = some o) (hex : o.ExactSet) (hd : o.data = .set es ep t) (rows : es.toList = rowsP P w L) (tab : Tab t L.length) (fit : L.length ≤ t.mask) (un : (L.map (·.2)).Nodup) (pl : t.plain = true)
    (ld : w.params.followText "set-order" = true ∨ t.led = true) {wanted M : Nat} (hw : SetTable.sizeAbove wanted - 1 = M) (F : Full M) (hM : M ≤ 2047) (room : L.length * 5 < M * 3) {Q : Unit → Shared → Prop}
    (q : ∀ h' L' es' ep' t', Heap.SameBut a s.heap h' → SetIs P w h' a L' es' ep' t' → L'.Perm L → t'.mask = M → Q () { s with heap := h' }) : wpAny (model P w) A (setRelay a wanted) Q E s := by
  have sz := rows_size rows
  obtain ⟨t2, order, e, pm, T, em, el, epl⟩ := laid_anew t (hs := es.map (·.1)) hw F (by rw [Array.size_map, sz]; omega)
  rw [Array.size_map, sz] at pm T
  obtain ⟨L2, r1, r2⟩ := rows_moved rows pm
  have sz2 : (order.filterMap fun i => es[i]?).size = es.size := by rw [rows_size r1, sz, r2.length_eq]
  rw [setRelay_eq]
  refine wpAny_bind (wpAny_setState_of ho hd (by rw [sz]; exact fits_of tab fit) ?_)
  dsimp only
  refine wp_if_neg (by rw [sizeLine_eq]; omega) ?_
  try refine wpAny_bind (wpAny_pure ?_)
  rw [e]
  dsimp only
  refine wpAny_bind ?_
  refine wp_if_neg (by rw [sz2, bne_self_eq_false]; decide) ?_
  try refine wpAny_bind (wpAny_pure ?_)
  refine wpAny_pure ?_
  dsimp only
  refine wpAny_storeSet_of ho hd ?_ (by rw [sz2, sz, sizeLine_eq]; omega)
  refine q _ L2 _ (ep + 1) t2 (Heap.SameBut.update ..) ⟨⟨_, store_at ho hd, hex, rfl⟩, r1, by rw [r2.length_eq]; exact T, ?_, epl.trans pl, by rw [el]; exact ld, ?_⟩ r2 em
  · exact (r2.map _).nodup_iff.mpr un
  · rw [r2.length_eq, em]
    exact room
theorem add_new (S : SetIs P w s.heap a L es ep t) (tup : ∀ x ∈ L, PairIs P w s.heap x.2 x.1) {x : Addr} {p : Pr} (hx : PairIs P w s.heap p x) (new : p ∉ L.map (·.2)) (hu : A.units + 8 < cLine) (hm : Mask5 t.mask) (few : L.length < 1228) {Q : Bool → Shared → Prop}
    (q : ∀ h' L' es' ep' t', Heap.SameBut a s.heap h' → SetIs P w h' a L' es' ep' t' → L'.Perm ((x, p) :: L) → Mask5 t'.mask → Q true { s with heap := h' }) :
    wpAny (model P w) A (setAddHashed a (.ref x) (phash P w p)) Q E s := by
  obtain ⟨o, ho, hex, hd⟩ := S.obj
  have sz := rows_size S.rows
  have room := S.room
  unfold setAddHashed
  refine wpAny_holding ?_
  rw [show (100000 : Nat) = 99999 + 1 from rfl, setAddHashedIn_succ]
  refine wpAny_bind (wpAny_setState_of ho hd S.fits ?_)
  dsimp only
  refine wp_if_neg (by unfold byScan Value.scannable; simp) ?_
  try refine wpAny_bind (wpAny_pure ?_)
  refine wpAny_bind (search_new S tup hx new hu hm.le fun j out => ?_)
  dsimp only
  refine wpAny_bind (wpAny_setState_of ho hd S.fits ?_)
  dsimp only
  obtain ⟨T1, ei, li, em, el, epl, efl⟩ := S.tab.one out
  generalize t.put j = put at T1 ei em el epl efl ⊢
  obtain ⟨t1, i⟩ := put
  dsimp only at T1 ei em el epl efl ⊢
  rw [← ei] at li
  clear ei
  have pl1 : t1.plain = true := epl.trans S.plain
  have ld1 : w.params.followText "set-order" = true ∨ t1.led = true := by rw [el]; exact S.led
  have rows1 : (SetTable.insertAt es i (phash P w p, .ref x)).toList = rowsP P w (L.take i ++ (x, p) :: L.drop i) := by
    rw [SetTable.toList_insertAt, S.rows]
    unfold rowsP
    rw [List.map_append, List.map_cons, List.map_take, List.map_drop]
  have pm := put_perm L i (x, p)
  generalize SetTable.insertAt es i (phash P w p, .ref x) = es1 at rows1 ⊢
  generalize L.take i ++ (x, p) :: L.drop i = L1 at rows1 pm
  have len1 : L1.length = L.length + 1 := pm.length_eq
  have sz1 := rows_size rows1
  have un1 : (L1.map (·.2)).Nodup := (pm.map (·.2)).nodup_iff.mpr (List.nodup_cons.mpr ⟨new, S.un⟩)
  first
    | (refine wpAny_bind ?_; refine wp_if_pos pl1 ?_; refine byVal_pair hx A E _ ?_)
    | refine wp_if_pos pl1 (wpAny_bind (byVal_pair hx A E _ ?_))
  simp only [if_true]
  refine wpAny_bind (wpAny_storeSet_of ho hd ?_ (by rw [sz1, len1, sizeLine_eq]; omega))
  have sb : Heap.SameBut a s.heap (s.heap.update a (Obj.putSet es1 t1)) := Heap.SameBut.update ..
  have ho1 := store_at (es' := es1) (t' := t1) ho hd
  generalize s.heap.update a (Obj.putSet es1 t1) = h1 at sb ho1 ⊢
  by_cases full : t1.tooFull = true
  · first
      | (refine wpAny_bind ?_; refine wp_if_pos (by simp [full]) ?_)
      | (refine wp_if_pos (by simp [full]) ?_; refine wpAny_bind ?_)
    unfold SetTable.tooFull at full
    rw [decide_eq_true_eq, efl, em] at full
    obtain ⟨M, hw, F, hM, room2, le2⟩ := grows hm room full few
    rw [sz]
    refine relay_new (s := { s with heap := h1 }) ho1 hex rfl rows1 (by rw [len1]; exact T1) (by rw [len1, em]; omega) un1 pl1 ld1 hw F le2 (by rw [len1]; exact room2) fun h2 L2 es2 ep2 t2 sb2 S2 pm2 em2 => ?_
    exact wpAny_pure (q h2 L2 es2 ep2 t2 (sb.trans sb2) S2 (pm2.trans pm) (by rw [em2]; exact hM))
  · first
      | refine wp_if_neg (by simp [full]) ?_
      | (refine wpAny_bind ?_; refine wp_if_neg (by simp [full]) ?_; refine wpAny_pure ?_)
    refine wpAny_pure (q h1 L1 es1 (ep + 1) t1 sb ⟨⟨_, ho1, hex, rfl⟩, rows1, by rw [len1]; exact T1, un1, pl1, ld1, ?_⟩ pm (by rw [em]; exact hm))
    unfold SetTable.tooFull at full
    rw [decide_eq_true_eq, efl] at full
    rw [len1]
    omega
end
/-! ### set(pairs), sorted(set) -/
/-- the set at a, as one object; the members themselves are told beside it -/
def SetPO (P : Program) (w : World) (a : Addr) (L : List (Addr × Pr)) : HO := .ext fun h => ∃ es ep t, SetIs P w h a L es ep t ∧ Mask5 t.mask
section
variable {P : Program} {w : World} {A : Around} {E : Value → Shared → Prop} {s : Shared} {a : Addr} {L : List (Addr × Pr)} {es : Array (Int × Value)} {ep : Nat} {t : SetTable}
theorem SetIs.at {h h' : Heap} (S : SetIs P w h a L es ep t) (k : ∀ o, h.get? a = some o → h'.get? a = some o) : SetIs P w h' a L es ep t :=
  ⟨let ⟨o, ho, r⟩ := S.obj; ⟨o, k o ho, r⟩, S.rows, S.tab, S.un, S.plain, S.led, S.room⟩
theorem setPO_new {H : Hp} {h : Heap} (S : SetIs P w h a L es ep t) (hm : Mask5 t.mask) : ObjOk P w H h a (SetPO P w a L) := by
  obtain ⟨o, ho, _⟩ := id S.obj
  refine ⟨⟨es, ep, t, S, hm⟩, ⟨o, ho⟩, fun h1 h2 z k => ?_⟩
  obtain ⟨es2, ep2, t2, S2, hm2⟩ := z
  exact ⟨es2, ep2, t2, S2.at k, hm2⟩
theorem set_born_is {h : Heap} (ho : h.get? a = some (born w)) : ∃ es ep t, SetIs P w h a [] es ep t ∧ Mask5 t.mask := by
  refine ⟨#[], 0, .fresh 0 0 (!w.params.followText "set-order"), ⟨⟨_, ho, ⟨rfl, rfl, rfl⟩, rfl⟩, rfl, ⟨List.Pairwise.nil, rfl, rfl, full_7⟩, List.nodup_nil, rfl, ?_, by show 0 * 5 < 7 * 3; decide⟩, .inl rfl⟩
  show _ ∨ (!w.params.followText "set-order") = true
  cases w.params.followText "set-order"
  · exact .inr rfl
  · exact .inl rfl
theorem pair_keep {h h' : Heap} {p : Pr} {b : Addr} (hb : PairIs P w h p b) (k : ∀ c o, h.get? c = some o → h'.get? c = some o) : PairIs P w h' p b := ⟨NestedIs.at (fun c u _ _ hc _ => k c u hc) _ _ hb.1, hb.2⟩
theorem take_un {ks : List (Addr × Pr)} {i : Nat} {x : Addr × Pr} (un : (ks.map (·.2)).Nodup) (hx : ks[i]? = some x) : x.2 ∉ (ks.take i).map (·.2) := by
  have e : (ks.take (i + 1)).map (·.2) = (ks.take i).map (·.2) ++ [x.2] := by rw [L2.take_next hx, List.map_append]; rfl
  have un2 : ((ks.take (i + 1)).map (·.2)).Nodup := un.sublist ((List.take_sublist _ _).map _)
  rw [e] at un2
  intro z
  exact (List.nodup_append.mp un2).2.2 _ z _ (List.mem_singleton.mpr rfl) rfl
theorem call_setP {l : Addr} {items : Array Value} {ks : List (Addr × Pr)} {Q : Value → Shared → Prop} (hh : A.handled = none) (hl : s.heap.IsList l items) (hi : items.toList = ks.map fun x => Value.ref x.1) (hk : ∀ x ∈ ks, PairIs P w s.heap x.2 x.1)
    (un : (ks.map (·.2)).Nodup) (few : ks.length ≤ 1228) (hu : A.units + 16 < cLine) (q : ∀ h' tk L es ep t, SetIs P w h' s.heap.objs.size L es ep t → Mask5 t.mask → L.Perm ks → (∀ b o, s.heap.get? b = some o → h'.get? b = some o) → Q (.ref s.heap.objs.size) { s with heap := h', toks := tk }) :
    wpAny (model P w) A (call (.type "set") [.ref l]) Q E s := by
  have sz : items.size = ks.length := by rw [← Array.length_toList, hi]; exact List.length_map _
  refine call_setL (J := fun i h => (∀ b o, s.heap.get? b = some o → h.get? b = some o) ∧ ∃ L es ep t, SetIs P w h s.heap.objs.size L es ep t ∧ Mask5 t.mask ∧ L.Perm (ks.take i)) hh hl (fun g hg k => ?_) (fun i g g' J k => ?_) ?_ ?_
  · obtain ⟨es, ep, t, S, hm⟩ := set_born_is (P := P) hg
    exact ⟨k, [], es, ep, t, S, hm, .nil⟩
  · obtain ⟨k1, L, es, ep, t, S, r⟩ := J
    exact ⟨fun b o z => k b o (Nat.lt_succ_of_lt (Heap.lt_size z)) (k1 b o z), L, es, ep, t, S.at fun o z => k _ o (Nat.lt_succ_self _) z, r⟩
  · intro B F i v s2 Q2 hB hlt hv J q2
    obtain ⟨k1, L, es, ep, t, S, hm, pm⟩ := J
    have lt2 : i < ks.length := by omega
    have hx : ks[i]? = some ks[i] := List.getElem?_eq_getElem lt2
    generalize ks[i] = x at hx
    obtain rfl : v = .ref x.1 := by
      have e : items.toList[i]? = some (.ref x.1) := by rw [hi, List.getElem?_map, hx]; rfl
      rw [Array.getElem?_toList, hv] at e
      exact Option.some.inj e
    have there : ∀ y ∈ ks, PairIs P w s2.heap y.2 y.1 := fun y hy => pair_keep (hk y hy) k1
    have sub : ∀ y ∈ L, y ∈ ks := fun y hy => List.mem_of_mem_take (pm.mem_iff.mp hy)
    have hxp := there x (List.mem_of_getElem? hx)
    have len : L.length = i := by rw [pm.length_eq, List.length_take]; omega
    unfold setAdd
    refine wpAny_holding (wpAny_bind ((nestedKind P w).pyHash (by show B.units + 8 < cLine; omega) hxp ?_))
    refine add_new (s := { s2 with toks := s2.toks + (nestedKind P w).draws (nkP x.2) }) S (fun y hy => there y (sub y hy)) hxp (fun z => take_un un hx ((pm.map (·.2)).mem_iff.mp z)) (by omega) hm (by omega) fun h' L' es' ep' t' sb S' pm' hm' => ?_
    refine q2 _ _ _ sb ⟨fun b o z => (sb.2 b (Nat.ne_of_lt (Heap.lt_size z))).trans (k1 b o z), L', es', ep', t', S', hm', ?_⟩
    rw [L2.take_next hx]
    exact pm'.trans ((pm.cons x).trans (List.perm_append_singleton x _).symm)
  · intro h2 t2 J k
    obtain ⟨_, L, es, ep, t, S, hm, pm⟩ := J
    rw [sz, List.take_length] at pm
    exact q h2 t2 L es ep t S hm pm k
end
theorem refs_pairs : ∀ {ks : List (Addr × Pr)} {us : List Value}, Vals (ks.map fun k => V.ref k.1) us → us = ks.map fun k => Value.ref k.1
  | [], _, r => by
    cases r
    rfl
  | k :: ks, _, r => by
    cases r with
    | cons r1 r2 =>
      obtain rfl := r1
      rw [refs_pairs r2]
      rfl
def rSetP (K : PySem.W.Frag) (P : Program) (w : World) : List V → Hp → VK → Prop := fun vs H Q => ∃ (l : Addr) (ks : List (Addr × Pr)), vs = [.ref l] ∧ SqL K H l (ks.map fun k => V.ref k.1) ∧ (∀ k ∈ ks, PairAt H k.1 k.2) ∧ (ks.map (·.2)).Nodup ∧ ks.length ≤ 1024 ∧
  ∀ a L, H a = none → L.Perm ks → Q (.ref a) (upd H a (SetPO P w a L))
theorem cr_setP {X : Cx} (hc : X.calm = true) (hu : X.A.units + 64 < cLine) : CallR X (.type "set") (rSetP X.K X.prog X.w) := by
  intro pins s σ H vs us Q I r h
  obtain ⟨l, ks, rfl, hs, hk, un, few, q⟩ := h
  obtain ⟨its, rv, hl, hz⟩ := I.list hs
  rw [Vals.ref1 r]
  refine call_setP (P := X.prog) (w := X.w) (ks := ks) (I.ok.hd hc) hl.isList (by simpa using refs_pairs rv) (fun x hx => pair_nested I (hk x hx)) un (by omega) (by omega) fun h2 t2 L es ep t S hm pm k => ?_
  exact ⟨.ref s.heap.objs.size, _, I.laid (t' := t2) k (Nat.le_refl _) (setPO_new S hm), rfl, q _ L (I.hok.fresh (Nat.le_refl _)) pm⟩
open PySem.W (Datum DatumOrd Tup)
def rSortedP (P : Program) (w : World) : List V → Hp → VK → Prop := fun vs H Q => ∃ (a : Addr) (L : List (Addr × Pr)), vs = [.ref a] ∧ H a = some (SetPO P w a L) ∧ (∀ k ∈ L, PairAt H k.1 k.2) ∧ L.length ≤ 1024 ∧
  ∀ (M : List (Addr × Pr)) (p : Addr), M.Perm L → M.Pairwise (fun x y => lxP y.2 x.2 = false) → H p = none → Q (.ref p) (upd H p (.lst (M.map fun x => V.ref x.1)))
theorem map_same {α β : Type} {f : α → β} : ∀ {L : List α}, (L.map f).Nodup → ∀ x ∈ L, ∀ y ∈ L, f x = f y → x = y
  | [], _, _, hx, _, _, _ => nomatch hx
  | z :: L, nd, x, hx, y, hy, e => by
    obtain ⟨out, nd2⟩ := List.nodup_cons.mp nd
    rcases List.mem_cons.mp hx with c | c <;> rcases List.mem_cons.mp hy with d | d
    · rw [c, d]
    · exact absurd (List.mem_map.mpr ⟨y, d, by rw [← e, c]⟩) out
    · exact absurd (List.mem_map.mpr ⟨x, c, by rw [e, d]⟩) out
    · exact map_same nd2 x c y d e
/-- values that stand for members, in whatever order -/
theorem members_of {L : List (Addr × Pr)} : ∀ {vs : List Value}, vs.Perm (L.map fun x => Value.ref x.1) → (L.map fun x => Value.ref x.1).Nodup → ∃ M : List (Addr × Pr), vs = M.map (fun x => Value.ref x.1) ∧ M.Perm L := by
  intro vs pm nd
  have pick : ∀ us : List Value, (∀ u ∈ us, ∃ x ∈ L, u = Value.ref x.1) → ∃ M : List (Addr × Pr), us = M.map (fun x => Value.ref x.1) ∧ ∀ x ∈ M, x ∈ L := by
    intro us
    induction us with
    | nil => exact fun _ => ⟨[], rfl, fun x z => nomatch z⟩
    | cons u us ih =>
      intro all
      obtain ⟨x, hx, e⟩ := all u List.mem_cons_self
      obtain ⟨M, e2, sub⟩ := ih fun y hy => all y (List.mem_cons_of_mem _ hy)
      refine ⟨x :: M, by rw [e, e2, List.map_cons], fun y hy => ?_⟩
      rcases List.mem_cons.mp hy with c | c
      · rw [c]
        exact hx
      · exact sub y c
  obtain ⟨M, e, sub⟩ := pick vs fun u hu => by
    obtain ⟨x, hx, e⟩ := List.mem_map.mp (pm.mem_iff.mp hu)
    exact ⟨x, hx, e.symm⟩
  subst e
  have same : ∀ x ∈ L, ∀ y ∈ L, Value.ref x.1 = Value.ref y.1 → x = y := map_same nd
  refine ⟨M, rfl, ?_⟩
  have nL : L.Nodup := L2.nodup_of_map nd
  have nM : M.Nodup := L2.nodup_of_map (pm.nodup_iff.mpr nd)
  refine (List.perm_ext_iff_of_nodup nM nL).mpr fun x => ⟨sub x, fun hx => ?_⟩
  obtain ⟨y, hy, e⟩ := List.mem_map.mp (pm.mem_iff.mpr (List.mem_map.mpr ⟨x, hx, rfl⟩))
  rw [← same y (sub y hy) x hx e]
  exact hy
theorem each_pair {X : Cx} {pins : List (Addr × Obj)} {σ : L2.St} {H : Hp} {s : Shared} (I : Inv X pins σ H s) (l : Addr) : ∀ {M : List (Addr × Pr)}, (∀ x ∈ M, PairAt H x.1 x.2) → PySem.W.EachIs (fun v (x : Addr × Pr) => ∃ as, Reads s.heap v (Datum.toD (dpT x.2)) as ∧ l ∉ as) (M.map fun x => Value.ref x.1) M
  | [], _ => .nil
  | x :: M, h => .cons ⟨[], pair_reads I (h x List.mem_cons_self), by simp⟩ (each_pair I l fun y hy => h y (List.mem_cons_of_mem _ hy))
theorem each_ref : ∀ M : List (Addr × Pr), PySem.W.EachIs (fun v (x : Addr × Pr) => v = Value.ref x.1) (M.map fun x => Value.ref x.1) M
  | [] => .nil
  | x :: M => .cons rfl (each_ref M)
theorem vals_pairs : ∀ {M : List (Addr × Pr)} {us : List Value}, PySem.W.EachIs (fun v (x : Addr × Pr) => v = Value.ref x.1) us M → Vals (M.map fun x => V.ref x.1) us
  | _, _, .nil => .nil
  | _, _, .cons r t => by
    subst r
    exact .cons rfl (vals_pairs t)
/-- the order in which sorted puts pairs of dice -/
theorem pairs_sorted (M : List (Addr × Pr)) : (M.mergeSort (PySem.W.dataLe false fun x : Addr × Pr => Datum.toD (dpT x.2))).Pairwise fun x y => lxP y.2 x.2 = false := by
  have le : (PySem.W.dataLe false fun x : Addr × Pr => Datum.toD (dpT x.2)) = fun x y => !lxP y.2 x.2 := by
    rw [PySem.W.dataLe_eq]
    funext x y
    show (!PySem.W.dataLt (Datum.toD (dpT y.2)) (Datum.toD (dpT x.2))) = _
    rw [DatumOrd.lt_eq, ltP_is]
    rfl
  rw [le]
  refine (List.pairwise_mergeSort (le := fun x y : Addr × Pr => !lxP y.2 x.2) (fun x y z h1 h2 => ?_) (fun x y => ?_) M).imp fun h => (Bool.not_eq_true' _).mp h
  · rw [Bool.not_eq_true'] at h1 h2 ⊢
    have t := ordered_pairs.tr (dpT x.2) (dpT y.2) (dpT z.2)
    rw [ltP_is, ltP_is, ltP_is] at t
    exact t h1 h2
  · have t := ordered_pairs.tot (dpT x.2) (dpT y.2)
    rw [ltP_is, ltP_is] at t
    rcases t with c | c
    · exact Bool.or_eq_true _ _ ▸ .inr (by rw [show lxP x.2 y.2 = false from c]; rfl)
    · exact Bool.or_eq_true _ _ ▸ .inl (by rw [show lxP y.2 x.2 = false from c]; rfl)
theorem cr_sortedP {X : Cx} (hcalm : X.calm = true) (hu : X.A.units + 64 < cLine) : CallR X (.builtin "sorted") (rSortedP X.prog X.w) := by
  intro pins s σ H vs us Q I r h
  obtain ⟨a, L, rfl, ha, hk, few, q⟩ := h
  obtain ⟨es, ep, t, S, hm⟩ := (I.hok a _ ha).1
  have sz := rows_size S.rows
  obtain ⟨o, ho, hx, hd⟩ := S.obj
  rw [Vals.ref1 r]
  refine Calls.call_function_entry PyProof.Rows.kind_sorted PyProof.Rows.plain_sorted PyProof.Rows.entry_sorted (PyProof.Rows.args_sorted1 _) ?_
  unfold Builtin.«sorted»
  refine wpAny_bind (m := checkCount "sorted" 1 1 _) (wpAny_pure ?_)
  refine wpAny_bind (collect_set (A := X.A.in1) (I.ok.hd hcalm) ⟨o, ho, hx.1, hd⟩ S.fits (by unfold scanBound; omega) S.tab.ris S.led fun s1 vs k1 _ g1 o1 pm => ?_)
  have vals : es.toList.map (·.2) = L.map fun x => Value.ref x.1 := by
    rw [S.rows, rowsP, List.map_map]
    rfl
  rw [vals] at pm
  have nd : (L.map fun x => Value.ref x.1).Nodup := by
    refine List.pairwise_map.mpr ((List.pairwise_map.mp S.un).imp_of_mem fun {x y} hx hy ne e => ne ?_)
    have e1 : x.1 = y.1 := by injection e
    have px := pair_nested I (hk x hx)
    rw [e1] at px
    exact nkP_inj ((nestedKind X.prog X.w).inj px (pair_nested I (hk y hy)))
  obtain ⟨M, rfl, pm2⟩ := members_of pm nd
  have e1 : s1 = { s with heap := s1.heap, gens := s1.gens, drawn := s1.drawn, toks := s1.toks } := by
    cases s1
    cases s
    cases o1
    rfl
  have I1 : Inv X pins σ H { s with heap := s1.heap, gens := s1.gens, drawn := s1.drawn, toks := s1.toks } := I.call (ch := []) (Un.kept k1) (I.hok.kept k1) (by rw [g1]; exact I.bare) (fun _ z => nomatch z)
  have hz : M.length ≤ sizeLine := by
    rw [pm2.length_eq, sizeLine_eq]
    omega
  have hkM : ∀ x ∈ M, PairAt H x.1 x.2 := fun x hx => hk x (pm2.mem_iff.mp hx)
  refine wpAny_bind (wpAny_newList ?_ (by rw [List.length_map]; exact hz))
  have hoL : (s1.heap.push (seqObj "list" (M.map fun x => Value.ref x.1).toArray 0)).get? s1.heap.objs.size = some (seqObj "list" (M.map fun x => Value.ref x.1).toArray 0) := Heap.get?_push_size _ rfl
  have I2 : Inv X pins σ H { s with heap := s1.heap.push (seqObj "list" (M.map fun x => Value.ref x.1).toArray 0), gens := s1.gens, drawn := s1.drawn, toks := s1.toks } := I1.kept (t' := s1.toks) fun b u z => Heap.get?_push_of_some _ z
  have srt := pairs_sorted M
  have pmS : (M.mergeSort (PySem.W.dataLe false fun x : Addr × Pr => Datum.toD (dpT x.2))).Perm M := List.mergeSort_perm _ _
  refine wpAny_bind (wpAny_holding (PySem.W.list_sort_data (s := { s1 with heap := s1.heap.push (seqObj "list" (M.map fun x => Value.ref x.1).toArray 0) }) (R := fun v (x : Addr × Pr) => v = Value.ref x.1) (enc := fun x : Addr × Pr => Datum.toD (dpT x.2)) (bs := M)
    hoL (each_ref M) (each_pair I2 _ hkM) (PySem.W.AllAlike.of fun x y => DatumOrd.alike (dpT x.2) (dpT y.2)) (PySem.W.Sortable.tuples fun x => ⟨_, _, rfl⟩) hz (fun x _ => ?_) fun out h1 h2 => ?_))
  · refine Nat.lt_of_le_of_lt (Nat.add_le_add_left (Datum.depth_le (dpT x.2)) _) ?_
    show X.A.units + 1 + 1 + 2 < cLine
    omega
  · obtain ⟨c, hc⟩ := PyProof.Rows.sortedHeap_at (vs := M.map fun x => Value.ref x.1) (out := out.toArray) hoL
    generalize M.mergeSort (PySem.W.dataLe false fun x : Addr × Pr => Datum.toD (dpT x.2)) = N at *
    have hn : H s1.heap.objs.size = none := I1.hok.fresh (Nat.le_refl _)
    have keep : ∀ b u, s1.heap.get? b = some u → (PyProof.Rows.sortedHeap (s1.heap.push (seqObj "list" (M.map fun x => Value.ref x.1).toArray 0)) s1.heap.objs.size (M.map fun x => Value.ref x.1) out.toArray).get? b = some u := fun b u z => by
      have lt : b < s1.heap.objs.size := Heap.lt_size z
      rw [PyProof.Rows.sortedHeap_old (Nat.ne_of_lt lt) (by rw [size_push']; exact Nat.lt_succ_of_lt lt)]
      exact Heap.get?_push_of_some _ z
    have I3 := I1.laid (t' := s1.toks) (o := .lst (N.map fun x => V.ref x.1)) keep (Nat.le_refl _) ⟨by rw [List.length_map, pmS.length_eq]; exact hz, out, c, vals_pairs h2, hc⟩
    refine wpAny_pure ⟨_, rfl, .ref s1.heap.objs.size, _, ?_, rfl, q N _ (pmS.trans pm2) srt hn⟩
    rw [e1]
    exact I3
end My

/-! sorted of a tuple of whole numbers. -/
namespace My
open PySem PySem.Spec PyProof.Rows L2
def rSortedTI (K : PySem.W.Frag) : List V → Hp → VK → Prop := fun vs H Q => ∃ (t : Addr) (ns : List Int), vs = [.ref t] ∧ SqT K H t (ns.map V.int) ∧ ∀ (ms : List Int) (p : Addr), ms.Perm ns → ms.Pairwise (· ≤ ·) → H p = none → Q (.ref p) (upd H p (.lst (ms.map V.int)))
theorem cr_sortedTI {X : Cx} : CallR X (.builtin "sorted") (rSortedTI X.K) := by
  intro pins s σ H vs us Q I r h
  obtain ⟨t, ns, rfl, hs, q⟩ := h
  obtain ⟨its, rv, ⟨o, ho, hc, n, hd⟩, hz⟩ := I.tuple hs
  rw [Vals.ref1 r]
  have hi := rv.ints
  have hl : its.length ≤ sizeLine := by rw [← rv.length]; exact hz
  refine Calls.call_function_entry PyProof.Rows.kind_sorted PyProof.Rows.plain_sorted PyProof.Rows.entry_sorted (PyProof.Rows.args_sorted1 _) ?_
  unfold Builtin.«sorted»
  refine wpAny_bind (m := checkCount "sorted" 1 1 _) (wpAny_pure ?_)
  refine wpAny_bind (wpAny_collect_seq (A := X.A.in1) t (.inr rfl) ho hc hd (fun h1 k1 => ?_) (by rw [List.size_toArray]; exact hl))
  have I1 : Inv X pins σ H { s with heap := h1 } := I.kept (t' := s.toks) k1
  have e : its.toArray.toList = its := by simp
  rw [e]
  refine wpAny_bind (wpAny_newList ?_ hl)
  have hoL : (h1.push (seqObj "list" its.toArray 0)).get? h1.objs.size = some (seqObj "list" its.toArray 0) := Heap.get?_push_size _ rfl
  show wpAny _ _ _ _ _ { s with heap := h1.push (seqObj "list" its.toArray 0) }
  refine wpAny_bind (wpAny_holding (wpAny_call_entry (s := { s with heap := h1.push (seqObj "list" its.toArray 0) }) PyProof.Rows.slot_list_sort ⟨_, hoL, rfl⟩ PyProof.Rows.entry_list_sort
    (SrtO.list_sort_ord SrtO.swo_int hoL hl (fun h2 => SrtO.ints_sortable hi h2) fun out h2 h3 => ⟨.none, rfl, ?_⟩) (PyProof.Rows.args_list_sort _)))
  obtain ⟨k2, k3, k4⟩ := SrtO.ints_out hi h2 h3
  obtain ⟨ep, he⟩ := PyProof.Rows.sortedHeap_at (vs := its) (out := out.toArray) hoL
  refine wpAny_pure ⟨_, rfl, .ref h1.objs.size, _, I1.laid (t' := s.toks) (o := .lst ((out.map SrtO.iv).map V.int)) (fun b u z => ?_) (Nat.le_refl _) ⟨?_, out, ep, vals_of_ints k2, he⟩, rfl, q _ _ k3 k4 (I1.hok.fresh (Nat.le_refl _))⟩
  · have lt : b < h1.objs.size := Heap.lt_size z
    rw [PyProof.Rows.sortedHeap_old (Nat.ne_of_lt lt) (by rw [size_push']; exact Nat.lt_succ_of_lt lt)]
    exact Heap.get?_push_of_some _ z
  · rw [List.length_map, k3.length_eq]
    rw [List.length_map] at hz
    exact hz
end My

/-! A tuple of two the other way round; every second of a list. -/
namespace My
open PySem PySem.Spec PyProof.Rows L2
section
variable {prog : Program} {w : World} {A : Around} {E : Value → Shared → Prop} {s : Shared}
theorem back_two {t sl : Addr} {u v k : Value} {Q : Value → Shared → Prop} (ht : IsTup s.heap t #[u, v]) (hs : s.heap.IsSliceOf sl .none .none k) (hk : IsPart k (some (-1)))
    (h : Q (.ref s.heap.objs.size) { s with heap := s.heap.push { cls := .type "tuple", data := .seq #[v, u] } }) : wpAny (model prog w) A (getItem (.ref t) (.ref sl)) Q E s := by
  obtain ⟨o, ho, hc, hd⟩ := id hs
  unfold getItem
  try with_reducible refine wpAny_holding ?_
  first | refine wpAny_bind (wpAny_pure ?_) | skip
  refine wpAny_bind (wpAny_sequenceKey ht.typeIs (by decide) ?_)
  refine wpAny_bind (wpAny_callSpecial?_slot (name := Str.ofString "__getitem__") ht.typeIs PyProof.Rows.slot_tuple_getitem (wpAny_call_entry PyProof.Rows.slot_tuple_getitem ht.typeIs entry_tuple_getitem ?_ (args_tuple_getitem _ _)))
  show wpAny _ _ (Builtin.Tuple.tupleItemsOf (.ref t) >>= _) _ _ s
  refine wpAny_bind (tupleItemsOf_ ht ?_)
  refine wpAny_bind (wpAny_typeOf (show s.TypeIs (.ref sl) "slice" from ⟨o, ho, hc⟩) ?_)
  rw [if_pos (by decide)]
  have ap : ∀ (Q2 : Int × Int × Nat → Shared → Prop) (F : Value → Shared → Prop) (B : Around), Q2 (1, -1, 2) s → wpAny (model prog w) B (Builtin.Slice.sliceApplied (.ref sl) (pure (2 : Int))) Q2 F s := fun Q2 F B q => by
    unfold Builtin.Slice.sliceApplied Builtin.Slice.sliceFields
    refine wpAny_bind (wpAny_bind (wpAny_field ho hd (x := .none) rfl (wpAny_bind (wpAny_field ho hd (x := .none) rfl (wpAny_bind (wpAny_field ho hd (x := k) rfl (wpAny_pure ?_)))))))
    refine wpAny_bind (HT.slicePart_ hk ?_)
    show wpAny _ _ (if ((-1 : Int) == 0) = true then _ else _) _ _ s
    rw [if_neg (by decide)]
    exact wpAny_bind (HT.slicePart_ .none (wpAny_bind (HT.slicePart_ .none (wpAny_bind (wpAny_pure (wpAny_pure q))))))
  refine wpAny_bind (ap _ _ _ ?_)
  show wpAny _ _ (if ((1 : Int) == 0 && (-1 : Int) == 1 && (2 : Nat) == 2) = true then _ else _) _ _ s
  rw [if_neg (by decide)]
  first
    | exact wpAny_bind (m := Builtin.Tuple.tupleExact _) (wpAny_newObj_type (wpAny_pure ⟨_, rfl, wpAny_pure h⟩) (by show 2 ≤ sizeLine; decide))
    | exact wpAny_bind (m := Builtin.Tuple.tupleExact _) (wpAny_newObj_type (wpAny_bind (wpAny_pure (wpAny_pure ⟨_, rfl, wpAny_pure h⟩))) (by show 2 ≤ sizeLine; decide))
    | exact wpAny_bind (wpAny_bind (m := Builtin.Tuple.tupleExact _) (wpAny_newObj_type (wpAny_pure (wpAny_pure ⟨_, rfl, wpAny_pure h⟩)) (by show 2 ≤ sizeLine; decide)))
    | exact wpAny_bind (wpAny_bind (m := Builtin.Tuple.tupleExact _) (wpAny_newObj_type (wpAny_pure ⟨_, rfl, wpAny_pure h⟩) (by show 2 ≤ sizeLine; decide)))
end
def tRev2 (K : PySem.W.Frag) (te : TE) : TE := fun σ H Q => te σ H fun x H1 => ∃ (a : Addr) (u v : V), x = .ref a ∧ SqT K H1 a [u, v] ∧ ∀ p, H1 p = none → Q (.ref p) (upd H1 p (.tup [v, u]))
section
variable {X : Cx} {e : Expr} {te : TE} {k : Nat} {p1 p2 p3 pos : Pos}
theorem pe_rev2 (he : PE X e te) : PE X (.Subscript e (.Slice none none (some (.UnaryOp .USub (.Constant (.int 1) k p1) p2)) p3) pos) (tRev2 X.K te) := by
  refine ⟨fun pins s σ H Q I h => Subscript_ (thn (he.run pins s σ H _ I h) fun v s1 ⟨x, H1, I1, r1, q1⟩ => ?_)⟩
  obtain ⟨a, x1, x2, rfl, hx, q⟩ := q1
  cases r1
  have hst : PO X (some (.UnaryOp .USub (.Constant (.int 1) k p1) p2)) (tPart (tUn (rU fun i => .int (-i)) (tC (.int 1)))) := po_some (pe_un un_neg pe_int)
  refine wpAny_Slice (thn (po_none.run pins s1 σ H1 (fun o G => o = none ∧ G = H1) I1 ⟨rfl, rfl⟩) fun vl s2 ⟨l, H2, I2, pl, el, e2⟩ => ?_)
  subst el e2
  refine thn (po_none.run pins s2 σ H2 (fun o G => o = none ∧ G = H2) I2 ⟨rfl, rfl⟩) fun vu s3 ⟨u, H3, I3, pu, eu, e3⟩ => ?_
  subst eu e3
  refine thn (hst.run pins s3 σ H3 (fun o G => o = some (-1) ∧ G = H3) I3 ⟨1, rfl, -1, rfl, rfl, rfl⟩) fun vs s4 ⟨o, H4, I4, ps, eo, e4⟩ => ?_
  subst eo e4
  cases pl
  cases pu
  have I5 : Inv X pins σ H4 { s4 with heap := s4.heap.push { cls := .type "slice", data := .fields #[.none, .none, vs] } } := I4.kept (t' := s4.toks) fun b ob q => Heap.get?_push_of_some _ q
  obtain ⟨its, r, ht, hz⟩ := I5.tuple hx
  cases r with
  | @cons _ w1 _ us r1 r =>
    cases r with
    | @cons _ w2 _ us r2 r =>
      cases r
      show wpAny (model X.prog X.w) X.A (subscriptTail e (.Slice none none (some (.UnaryOp .USub (.Constant (.int 1) k p1) p2)) p3) (.ref a) (.ref s4.heap.objs.size)) (EP X pins σ Q) X.xe { s4 with heap := s4.heap.push { cls := .type "slice", data := .fields #[.none, .none, vs] } }
      refine tail_any (ops := [.ref a, .ref s4.heap.objs.size]) ht.typeIs PyProof.Rows.slot_tuple_getitem.lookup ?_ (by with_unfolding_all rfl)
      refine back_two ht (Heap.IsSliceOf.new _ .none .none vs) ps ?_
      refine ⟨.ref _, _, I5.laid (t' := s4.toks) (o := .tup [x2, x1]) (fun b ob q => Heap.get?_push_of_some _ q) (Nat.le_refl _) ?_, rfl, q _ (I5.hok.fresh (Nat.le_refl _))⟩
      exact ⟨by show 2 ≤ sizeLine; decide, [w2, w1], .cons r2 (.cons r1 .nil), IsTup.new _ _⟩
end
/-! ### some of a list: xs[lo::step] -/
theorem vals_pick {xs : List V} {us : List Value} (r : Vals xs us) : ∀ idx : List Nat, Vals (idx.filterMap fun i => xs[i]?) (idx.filterMap fun i => us[i]?)
  | [] => .nil
  | i :: idx => by
    have ih := vals_pick r idx
    have at_ : (xs[i]? = none ∧ us[i]? = none) ∨ ∃ x u, xs[i]? = some x ∧ us[i]? = some u ∧ L2.RelV x u := by
      clear ih
      induction r generalizing i with
      | nil => exact .inl ⟨rfl, rfl⟩
      | cons r1 r2 ih =>
        cases i with
        | zero => exact .inr ⟨_, _, rfl, rfl, r1⟩
        | succ i => exact ih i
    rcases at_ with ⟨h1, h2⟩ | ⟨x, u, h1, h2, h3⟩
    · rw [List.filterMap_cons_none h1, List.filterMap_cons_none h2]
      exact ih
    · rw [List.filterMap_cons_some h1, List.filterMap_cons_some h2]
      exact .cons h3 ih
def tSome (K : PySem.W.Frag) (te tl : TE) : TE := fun σ H Q => te σ H fun x H1 => tl σ H1 fun y H2 => ∃ i : Int, y = .int i ∧ ∃ (a : Addr) (xs : List V), x = .ref a ∧ SqL K H2 a xs ∧ ∀ (p : Addr) (ys : List V), (∀ z ∈ ys, z ∈ xs) → ys.length ≤ xs.length → H2 p = none → Q (.ref p) (upd H2 p (.lst ys))
section
variable {X : Cx} {e l : Expr} {te tl : TE} {k : Nat} {p1 p3 pos : Pos}
theorem pe_some (he : PE X e te) (hl : PE X l tl) : PE X (.Subscript e (.Slice (some l) none (some (.Constant (.int 2) k p1)) p3) pos) (tSome X.K te tl) := by
  refine ⟨fun pins s σ H Q I h => Subscript_ (thn (he.run pins s σ H _ I h) fun v s1 ⟨x, H1, I1, r1, q1⟩ => ?_)⟩
  have hlo : PO X (some l) (tPart tl) := po_some hl
  have hst : PO X (some (.Constant (.int 2) k p1)) (tPart (tC (.int 2))) := po_some pe_int
  refine wpAny_Slice (thn (hlo.run pins s1 σ H1 (fun o H2 => ∃ (a : Addr) (xs : List V), x = .ref a ∧ SqL X.K H2 a xs ∧ ∀ (p : Addr) (ys : List V), (∀ z ∈ ys, z ∈ xs) → ys.length ≤ xs.length → H2 p = none → Q (.ref p) (upd H2 p (.lst ys))) I1 q1) fun vl s2 ⟨lo, H2, I2, pl, q2⟩ => ?_)
  obtain ⟨a, xs, rfl, hx, q⟩ := q2
  cases r1
  refine thn (po_none.run pins s2 σ H2 (fun o G => o = none ∧ G = H2) I2 ⟨rfl, rfl⟩) fun vu s3 ⟨u, H3, I3, pu, eu, e3⟩ => ?_
  subst eu e3
  refine thn (hst.run pins s3 σ H3 (fun o G => o = some 2 ∧ G = H3) I3 ⟨2, rfl, rfl, rfl⟩) fun vs s4 ⟨o, H4, I4, ps, eo, e4⟩ => ?_
  subst eo e4
  have I5 : Inv X pins σ H4 { s4 with heap := s4.heap.push { cls := .type "slice", data := .fields #[vl, vu, vs] } } := I4.kept (t' := s4.toks) fun b ob q => Heap.get?_push_of_some _ q
  obtain ⟨its, r, ht, hz⟩ := I5.list hx
  have len := r.length
  show wpAny (model X.prog X.w) X.A (subscriptTail e (.Slice (some l) none (some (.Constant (.int 2) k p1)) p3) (.ref a) (.ref s4.heap.objs.size)) (EP X pins σ Q) X.xe { s4 with heap := s4.heap.push { cls := .type "slice", data := .fields #[vl, vu, vs] } }
  refine tail_any (ops := [.ref a, .ref s4.heap.objs.size]) ht.isList.typeIs (PySem.slot_list_getitem.lookup) ?_ (by with_unfolding_all rfl)
  have szp := slicePick_size_le its.toArray lo none (some 2)
  refine wpAny_getItem_list_slice ht.isList (Heap.IsSliceOf.new _ vl vu vs) pl pu ps (by decide) ?_ (by rw [List.size_toArray]; omega)
  unfold slicePick at szp ⊢
  generalize sliceRange _ _ _ = idx at szp ⊢
  have eidx : (idx.filterMap (its.toArray[·]?)) = idx.filterMap fun i => its[i]? := by
    congr 1
    funext i
    exact List.getElem?_toArray
  rw [eidx, List.size_toArray, List.size_toArray] at szp
  rw [eidx]
  have vp := vals_pick r idx
  have lp := vp.length
  refine ⟨.ref _, _, I5.laid (t' := s4.toks) (o := .lst (idx.filterMap fun i => xs[i]?)) (fun b ob q => Heap.get?_push_of_some _ q) (Nat.le_refl _) ?_, rfl, q _ _ (fun z hz => ?_) (by omega) (I5.hok.fresh (Nat.le_refl _))⟩
  · exact ⟨by omega, _, 0, vp, Heap.get?_push_size _ rfl⟩
  · obtain ⟨i, _, e⟩ := List.mem_filterMap.mp hz
    exact List.mem_of_getElem? e
end
end My

/-! The least and the greatest of a tuple of whole numbers. -/
namespace My
open PySem PySem.Spec PyProof.Rows L2
def rMinT (K : PySem.W.Frag) : List V → Hp → VK → Prop := fun vs H Q => ∃ (t : Addr) (ns : List Int), vs = [.ref t] ∧ SqT K H t (ns.map V.int) ∧ 0 < ns.length ∧ ∀ m, m ∈ ns → (∀ y ∈ ns, m ≤ y) → Q (.int m) H
def rMaxT (K : PySem.W.Frag) : List V → Hp → VK → Prop := fun vs H Q => ∃ (t : Addr) (ns : List Int), vs = [.ref t] ∧ SqT K H t (ns.map V.int) ∧ 0 < ns.length ∧ ∀ m, m ∈ ns → (∀ y ∈ ns, y ≤ m) → Q (.int m) H
section
variable {X : Cx}
theorem num_there {ns : List Int} {its : List Value} (rv : Vals (ns.map V.int) its) (i : Nat) (v : Value) (h : its.toArray[i]? = some v) : ∃ t, v = Value.int (ns.getD i 0) t := by
  rw [List.getElem?_toArray] at h
  obtain ⟨x, hx, rx⟩ : ∃ x, (ns.map V.int)[i]? = some x ∧ L2.RelV x v := by
    have lt : i < (ns.map V.int).length := by
      rw [rv.length]
      exact (List.getElem?_eq_some_iff.mp h).1
    obtain ⟨u, hu, ru⟩ := rv.get (List.getElem?_eq_getElem lt)
    rw [h] at hu
    cases hu
    exact ⟨_, List.getElem?_eq_getElem lt, ru⟩
  rw [List.getElem?_map] at hx
  obtain ⟨j, hj, rfl⟩ := Option.map_eq_some_iff.mp hx
  obtain ⟨t, e⟩ := rx
  exact ⟨t, by rw [e, List.getD_eq_getElem?_getD, hj]; rfl⟩
theorem getD_in {ns : List Int} {i : Nat} (h : i < ns.length) : ns.getD i 0 ∈ ns := by
  rw [List.getD_eq_getElem?_getD, List.getElem?_eq_getElem h]
  exact List.getElem_mem h
theorem in_getD {ns : List Int} {y : Int} (h : y ∈ ns) : ∃ i, i < ns.length ∧ ns.getD i 0 = y := by
  obtain ⟨i, hi, e⟩ := List.mem_iff_getElem.mp h
  exact ⟨i, hi, by rw [List.getD_eq_getElem?_getD, List.getElem?_eq_getElem hi]; exact e⟩
theorem cr_minT (hc : X.calm = true) : CallR X (.builtin "min") (rMinT X.K) := by
  intro pins s σ H vs us Q I r h
  obtain ⟨a, ns, rfl, hs, hne, q⟩ := h
  obtain ⟨its, rv, hl, hz⟩ := I.tuple hs
  rw [Vals.ref1 r]
  have len : its.length = ns.length := by rw [← rv.length, List.length_map]
  have ho : a < s.heap.objs.size := by
    obtain ⟨o, ho, _⟩ := id hl
    exact Heap.lt_size ho
  refine call_min_walk (wpAny_pyIter_tuple hl ?_)
  refine ⟨_, [s.heap.objs.size, a], [s.heap.objs.size], _, _, _, _, rfl, Walks.tuple (A := X.A.in1) (I.ok.hd hc) s.heap.objs.size a (Nat.ne_of_lt ho) its.toArray,
    ⟨⟨_, Heap.get?_push_size _ rfl, rfl, rfl⟩, hl.push _⟩, fun b hb => ?_, by rw [List.size_toArray]; omega, CmpOf.ints_lt (fun i => ns.getD i 0) (num_there rv), fun v h' tk hP hk => ?_⟩
  · show b < (s.heap.push _).objs.size
    rw [Heap.size_push]
    rcases List.mem_cons.mp hb with e | hb
    · rw [e]
      exact Nat.lt_succ_self _
    · rw [List.mem_singleton.mp hb]
      exact Nat.lt_succ_of_lt ho
  · obtain ⟨t, rfl⟩ := num_there rv _ _ hP
    obtain ⟨b1, b2⟩ := argBest_lt (fun i => ns.getD i 0) (its.toArray.size - 1)
    rw [List.size_toArray] at b1 b2 ⊢
    refine ⟨.int _, H, I.kept (t' := tk) fun b u e => hk b u (fun z => ?_) (Heap.get?_push_of_some _ e), ⟨t, rfl⟩, q _ (getD_in (by omega)) fun y hy => ?_⟩
    · rw [List.mem_singleton.mp z] at e
      exact absurd (Heap.lt_size e) (Nat.lt_irrefl _)
    · obtain ⟨i, hi, rfl⟩ := in_getD hy
      exact b2 i (by omega)
theorem cr_maxT (hc : X.calm = true) : CallR X (.builtin "max") (rMaxT X.K) := by
  intro pins s σ H vs us Q I r h
  obtain ⟨a, ns, rfl, hs, hne, q⟩ := h
  obtain ⟨its, rv, hl, hz⟩ := I.tuple hs
  rw [Vals.ref1 r]
  have len : its.length = ns.length := by rw [← rv.length, List.length_map]
  have ho : a < s.heap.objs.size := by
    obtain ⟨o, ho, _⟩ := id hl
    exact Heap.lt_size ho
  refine call_max_walk (wpAny_pyIter_tuple hl ?_)
  refine ⟨_, [s.heap.objs.size, a], [s.heap.objs.size], _, _, _, _, rfl, Walks.tuple (A := X.A.in1) (I.ok.hd hc) s.heap.objs.size a (Nat.ne_of_lt ho) its.toArray,
    ⟨⟨_, Heap.get?_push_size _ rfl, rfl, rfl⟩, hl.push _⟩, fun b hb => ?_, by rw [List.size_toArray]; omega, CmpOf.ints_gt (fun i => ns.getD i 0) (num_there rv), fun v h' tk hP hk => ?_⟩
  · show b < (s.heap.push _).objs.size
    rw [Heap.size_push]
    rcases List.mem_cons.mp hb with e | hb
    · rw [e]
      exact Nat.lt_succ_self _
    · rw [List.mem_singleton.mp hb]
      exact Nat.lt_succ_of_lt ho
  · obtain ⟨t, rfl⟩ := num_there rv _ _ hP
    obtain ⟨b1, b2⟩ := argBest_gt (fun i => ns.getD i 0) (its.toArray.size - 1)
    rw [List.size_toArray] at b1 b2 ⊢
    refine ⟨.int _, H, I.kept (t' := tk) fun b u e => hk b u (fun z => ?_) (Heap.get?_push_of_some _ e), ⟨t, rfl⟩, q _ (getD_in (by omega)) fun y hy => ?_⟩
    · rw [List.mem_singleton.mp z] at e
      exact absurd (Heap.lt_size e) (Nat.lt_irrefl _)
    · obtain ⟨i, hi, rfl⟩ := in_getD hy
      exact b2 i (by omega)
end
end My

namespace My
open PySem PySem.Spec PyProof.Rows L2
open PySem.W (Datum Tup)
theorem pe_same {X : Cx} {e : Expr} {t t' : TE} (h : PE X e t) (e' : t = t') : PE X e t' := e' ▸ h
theorem pi_same {X : Cx} {tg l : Expr} {t t' : TI} (h : PI X tg l t) (e' : t = t') : PI X tg l t' := e' ▸ h
/-! ### the text -/
def topS (i : Nat) : Stmt := PySem.Challenge.pw_dicepairs_k09_whole_alike_dice.main.body.getD i (.Pass ⟨0, 0, 0, 0⟩)
abbrev st_is_number : Stmt := topS 9
abbrev nm_is_number : List Str := ["thing"]
theorem sc_is_number : FnScope nm_is_number ["thing"] (defScope st_is_number) := ⟨rfl, rfl, rfl, by decide +kernel, rfl, by decide +kernel, by decide +kernel⟩
abbrev st_is_face : Stmt := topS 10
abbrev nm_is_face : List Str := ["thing"]
theorem sc_is_face : FnScope nm_is_face ["thing"] (defScope st_is_face) := ⟨rfl, rfl, rfl, by decide +kernel, rfl, by decide +kernel, by decide +kernel⟩
abbrev st_is_die : Stmt := topS 11
abbrev nm_is_die : List Str := ["thing", "face"]
theorem sc_is_die : FnScope nm_is_die ["thing"] (defScope st_is_die) := ⟨rfl, rfl, rfl, by decide +kernel, rfl, by decide +kernel, by decide +kernel⟩
abbrev st_need_die : Stmt := topS 12
abbrev nm_need_die : List Str := ["thing"]
theorem sc_need_die : FnScope nm_need_die ["thing"] (defScope st_need_die) := ⟨rfl, rfl, rfl, by decide +kernel, rfl, by decide +kernel, by decide +kernel⟩
abbrev st_need_dice : Stmt := topS 13
abbrev nm_need_dice : List Str := ["thing", "most", "die"]
theorem sc_need_dice : FnScope nm_need_dice ["thing", "most"] (defScope st_need_dice) := ⟨rfl, rfl, rfl, by decide +kernel, rfl, by decide +kernel, by decide +kernel⟩
abbrev st_counts : Stmt := topS 16
abbrev nm_counts : List Str := ["dice", "ways", "die"]
theorem sc_counts : FnScope nm_counts ["dice"] (defScope st_counts) := ⟨rfl, rfl, rfl, by decide +kernel, rfl, by decide +kernel, by decide +kernel⟩
abbrev st_ways_with : Stmt := topS 17
abbrev nm_ways_with : List Str := ["ways", "die", "more", "total", "many", "face"]
theorem sc_ways_with : FnScope nm_ways_with ["ways", "die"] (defScope st_ways_with) := ⟨rfl, rfl, rfl, by decide +kernel, rfl, by decide +kernel, by decide +kernel⟩
abbrev st_pairs_of : Stmt := topS 21
abbrev nm_pairs_of : List Str := ["rows", "many", "more", "least", "lowest", "left", "begun", "_"]
theorem sc_pairs_of : FnScope nm_pairs_of ["rows", "many", "more", "least"] (defScope st_pairs_of) := ⟨rfl, rfl, rfl, by decide +kernel, rfl, by decide +kernel, by decide +kernel⟩
abbrev st_alike : Stmt := topS 22
abbrev nm_alike : List Str := ["one", "other"]
theorem sc_alike : FnScope nm_alike ["one", "other"] (defScope st_alike) := ⟨rfl, rfl, rfl, by decide +kernel, rfl, by decide +kernel, by decide +kernel⟩
abbrev st_need_many_faces : Stmt := topS 23
abbrev nm_need_many_faces : List Str := ["thing"]
theorem sc_need_many_faces : FnScope nm_need_many_faces ["thing"] (defScope st_need_many_faces) := ⟨rfl, rfl, rfl, by decide +kernel, rfl, by decide +kernel, by decide +kernel⟩
abbrev st_need_pair_die : Stmt := topS 24
abbrev nm_need_pair_die : List Str := ["thing"]
theorem sc_need_pair_die : FnScope nm_need_pair_die ["thing"] (defScope st_need_pair_die) := ⟨rfl, rfl, rfl, by decide +kernel, rfl, by decide +kernel, by decide +kernel⟩
abbrev st_need_counts : Stmt := topS 25
abbrev nm_need_counts : List Str := ["thing", "throws", "totals", "row", "low", "high"]
theorem sc_need_counts : FnScope nm_need_counts ["thing", "throws"] (defScope st_need_counts) := ⟨rfl, rfl, rfl, by decide +kernel, rfl, by decide +kernel, by decide +kernel⟩
abbrev st_is_row : Stmt := topS 26
abbrev nm_is_row : List Str := ["thing", "total", "often"]
theorem sc_is_row : FnScope nm_is_row ["thing"] (defScope st_is_row) := ⟨rfl, rfl, rfl, by decide +kernel, rfl, by decide +kernel, by decide +kernel⟩
abbrev st_with_a_face_more : Stmt := topS 27
abbrev nm_with_a_face_more : List Str := ["begun", "many", "more", "further", "first", "second", "left", "total", "face", "rest", "against"]
theorem sc_with_a_face_more : FnScope nm_with_a_face_more ["begun", "many", "more"] (defScope st_with_a_face_more) := ⟨rfl, rfl, rfl, by decide +kernel, rfl, by decide +kernel, by decide +kernel⟩
abbrev st_without : Stmt := topS 28
abbrev nm_without : List Str := ["left", "totals", "rest", "total", "often"]
theorem sc_without : FnScope nm_without ["left", "totals"] (defScope st_without) := ⟨rfl, rfl, rfl, by decide +kernel, rfl, by decide +kernel, by decide +kernel⟩
abbrev st_law_draw : Stmt := topS 30
abbrev nm_law_draw : List Str := ["_law_script", "_law_k", "_law_cell", "_law_number"]
theorem sc_law_draw : FnScope nm_law_draw ["_law_script", "_law_k"] (defScope st_law_draw) := ⟨rfl, rfl, rfl, by decide +kernel, rfl, by decide +kernel, by decide +kernel⟩
abbrev st_law_die : Stmt := topS 31
abbrev nm_law_die : List Str := ["_law_script", "_law_k", "_law_most", "_law_top", "_law_number", "_law_found", "_law_j", "_law_face"]
theorem sc_law_die : FnScope nm_law_die ["_law_script", "_law_k", "_law_most", "_law_top"] (defScope st_law_die) := ⟨rfl, rfl, rfl, by decide +kernel, rfl, by decide +kernel, by decide +kernel⟩
abbrev st_law_throws : Stmt := topS 32
abbrev nm_law_throws : List Str := ["_law_dice", "_law_found", "_law_die_here", "_law_more", "_law_face", "_law_total"]
theorem sc_law_throws : FnScope nm_law_throws ["_law_dice"] (defScope st_law_throws) := ⟨rfl, rfl, rfl, by decide +kernel, rfl, by decide +kernel, by decide +kernel⟩
abbrev st_law_counted : Stmt := topS 33
abbrev nm_law_counted : List Str := ["_law_sums", "_law_total"]
theorem sc_law_counted : FnScope nm_law_counted ["_law_sums"] (defScope st_law_counted) := ⟨rfl, rfl, rfl, by decide +kernel, rfl, by decide +kernel, by decide +kernel⟩
abbrev st_law_good : Stmt := topS 34
abbrev nm_law_good : List Str := ["_law_found", "_law_one", "_law_other", "_law_counted_here", "_law_first", "_law_second"]
theorem sc_law_good : FnScope nm_law_good ["_law_found", "_law_one", "_law_other"] (defScope st_law_good) := ⟨rfl, rfl, rfl, by decide +kernel, rfl, by decide +kernel, by decide +kernel⟩
abbrev st_law_changed : Stmt := topS 35
abbrev nm_law_changed : List Str := ["_law_pairs", "_law_by", "_law_lift", "_law_found", "_law_first", "_law_second", "_law_face"]
theorem sc_law_changed : FnScope nm_law_changed ["_law_pairs", "_law_by", "_law_lift"] (defScope st_law_changed) := ⟨rfl, rfl, rfl, by decide +kernel, rfl, by decide +kernel, by decide +kernel⟩
abbrev st_law : Stmt := topS 36
abbrev nm_law : List Str := ["_law_script", "_law_number", "_law_top", "_law_one", "_law_other", "_law_kept", "_law_found", "_law_lift", "_law_by", "_law_first", "_law_second", "_law_pair", "_law_face"]
theorem sc_law : FnScope nm_law ["_law_script"] (defScope st_law) := ⟨rfl, rfl, rfl, by decide +kernel, rfl, by decide +kernel, by decide +kernel⟩
/-! ### what the top has written -/
structure Lay (K : PySem.W.Frag) (mg : Str → Option Value) where
  n_isinstance : mg "isinstance" = none
  n_int : mg "int" = none
  n_bool : mg "bool" = none
  n_list : mg "list" = none
  n_len : mg "len" = none
  n_all : mg "all" = none
  n_sorted : mg "sorted" = none
  n_dict : mg "dict" = none
  n_range : mg "range" = none
  n_min : mg "min" = none
  n_zip : mg "zip" = none
  n_sum : mg "sum" = none
  n_tuple : mg "tuple" = none
  n_set : mg "set" = none
  n_max : mg "max" = none
  n_ValueError : mg "ValueError" = none
  t_MOST_FACES : Tok
  c_MOST_FACES : mg "MOST_FACES" = some (.int 8 t_MOST_FACES)
  t_GREATEST_FACE : Tok
  c_GREATEST_FACE : mg "GREATEST_FACE" = some (.int 99 t_GREATEST_FACE)
  t_MOST_DICE : Tok
  c_MOST_DICE : mg "MOST_DICE" = some (.int 4 t_MOST_DICE)
  t_MOST_PAIR_FACES : Tok
  c_MOST_PAIR_FACES : mg "MOST_PAIR_FACES" = some (.int 6 t_MOST_PAIR_FACES)
  t_GREATEST_SUM : Tok
  c_GREATEST_SUM : mg "GREATEST_SUM" = some (.int 198 t_GREATEST_SUM)
  a_DiceError : Addr
  g_DiceError : mg "DiceError" = some (.ref a_DiceError)
  x_DiceError : ExFacts K a_DiceError
  a_BadDie : Addr
  g_BadDie : mg "BadDie" = some (.ref a_BadDie)
  x_BadDie : ExFacts K a_BadDie
  a_BadDice : Addr
  g_BadDice : mg "BadDice" = some (.ref a_BadDice)
  x_BadDice : ExFacts K a_BadDice
  a_BadNumber : Addr
  g_BadNumber : mg "BadNumber" = some (.ref a_BadNumber)
  x_BadNumber : ExFacts K a_BadNumber
  a_BadCounts : Addr
  g_BadCounts : mg "BadCounts" = some (.ref a_BadCounts)
  x_BadCounts : ExFacts K a_BadCounts
  s_BadDie_DiceError : PySem.W.kitOne K (.ref a_BadDie) (.ref a_DiceError) = some true
  e_BadDie_DiceError : PySem.W.subIn K (.ref a_BadDie) (.ref a_DiceError) = some true
  s_BadDie_BadDie : PySem.W.kitOne K (.ref a_BadDie) (.ref a_BadDie) = some true
  e_BadDie_BadDie : PySem.W.subIn K (.ref a_BadDie) (.ref a_BadDie) = some true
  s_BadDie_BadDice : PySem.W.kitOne K (.ref a_BadDie) (.ref a_BadDice) = some false
  e_BadDie_BadDice : PySem.W.subIn K (.ref a_BadDie) (.ref a_BadDice) = some false
  s_BadDie_BadNumber : PySem.W.kitOne K (.ref a_BadDie) (.ref a_BadNumber) = some false
  e_BadDie_BadNumber : PySem.W.subIn K (.ref a_BadDie) (.ref a_BadNumber) = some false
  s_BadDie_BadCounts : PySem.W.kitOne K (.ref a_BadDie) (.ref a_BadCounts) = some false
  e_BadDie_BadCounts : PySem.W.subIn K (.ref a_BadDie) (.ref a_BadCounts) = some false
  s_BadDice_DiceError : PySem.W.kitOne K (.ref a_BadDice) (.ref a_DiceError) = some true
  e_BadDice_DiceError : PySem.W.subIn K (.ref a_BadDice) (.ref a_DiceError) = some true
  s_BadDice_BadDie : PySem.W.kitOne K (.ref a_BadDice) (.ref a_BadDie) = some false
  e_BadDice_BadDie : PySem.W.subIn K (.ref a_BadDice) (.ref a_BadDie) = some false
  s_BadDice_BadDice : PySem.W.kitOne K (.ref a_BadDice) (.ref a_BadDice) = some true
  e_BadDice_BadDice : PySem.W.subIn K (.ref a_BadDice) (.ref a_BadDice) = some true
  s_BadDice_BadNumber : PySem.W.kitOne K (.ref a_BadDice) (.ref a_BadNumber) = some false
  e_BadDice_BadNumber : PySem.W.subIn K (.ref a_BadDice) (.ref a_BadNumber) = some false
  s_BadDice_BadCounts : PySem.W.kitOne K (.ref a_BadDice) (.ref a_BadCounts) = some false
  e_BadDice_BadCounts : PySem.W.subIn K (.ref a_BadDice) (.ref a_BadCounts) = some false
  s_BadNumber_DiceError : PySem.W.kitOne K (.ref a_BadNumber) (.ref a_DiceError) = some true
  e_BadNumber_DiceError : PySem.W.subIn K (.ref a_BadNumber) (.ref a_DiceError) = some true
  s_BadNumber_BadDie : PySem.W.kitOne K (.ref a_BadNumber) (.ref a_BadDie) = some false
  e_BadNumber_BadDie : PySem.W.subIn K (.ref a_BadNumber) (.ref a_BadDie) = some false
  s_BadNumber_BadDice : PySem.W.kitOne K (.ref a_BadNumber) (.ref a_BadDice) = some false
  e_BadNumber_BadDice : PySem.W.subIn K (.ref a_BadNumber) (.ref a_BadDice) = some false
  s_BadNumber_BadNumber : PySem.W.kitOne K (.ref a_BadNumber) (.ref a_BadNumber) = some true
  e_BadNumber_BadNumber : PySem.W.subIn K (.ref a_BadNumber) (.ref a_BadNumber) = some true
  s_BadNumber_BadCounts : PySem.W.kitOne K (.ref a_BadNumber) (.ref a_BadCounts) = some false
  e_BadNumber_BadCounts : PySem.W.subIn K (.ref a_BadNumber) (.ref a_BadCounts) = some false
  s_BadCounts_DiceError : PySem.W.kitOne K (.ref a_BadCounts) (.ref a_DiceError) = some true
  e_BadCounts_DiceError : PySem.W.subIn K (.ref a_BadCounts) (.ref a_DiceError) = some true
  s_BadCounts_BadDie : PySem.W.kitOne K (.ref a_BadCounts) (.ref a_BadDie) = some false
  e_BadCounts_BadDie : PySem.W.subIn K (.ref a_BadCounts) (.ref a_BadDie) = some false
  s_BadCounts_BadDice : PySem.W.kitOne K (.ref a_BadCounts) (.ref a_BadDice) = some false
  e_BadCounts_BadDice : PySem.W.subIn K (.ref a_BadCounts) (.ref a_BadDice) = some false
  s_BadCounts_BadNumber : PySem.W.kitOne K (.ref a_BadCounts) (.ref a_BadNumber) = some false
  e_BadCounts_BadNumber : PySem.W.subIn K (.ref a_BadCounts) (.ref a_BadNumber) = some false
  s_BadCounts_BadCounts : PySem.W.kitOne K (.ref a_BadCounts) (.ref a_BadCounts) = some true
  e_BadCounts_BadCounts : PySem.W.subIn K (.ref a_BadCounts) (.ref a_BadCounts) = some true
  z_DiceError : PySem.W.kitOne K (.type "NoneType") (.ref a_DiceError) = some false
  v_DiceError : PySem.W.kitOne K (.ref a_DiceError) (.type "ValueError") = some true
  z_BadDie : PySem.W.kitOne K (.type "NoneType") (.ref a_BadDie) = some false
  v_BadDie : PySem.W.kitOne K (.ref a_BadDie) (.type "ValueError") = some true
  z_BadDice : PySem.W.kitOne K (.type "NoneType") (.ref a_BadDice) = some false
  v_BadDice : PySem.W.kitOne K (.ref a_BadDice) (.type "ValueError") = some true
  z_BadNumber : PySem.W.kitOne K (.type "NoneType") (.ref a_BadNumber) = some false
  v_BadNumber : PySem.W.kitOne K (.ref a_BadNumber) (.type "ValueError") = some true
  z_BadCounts : PySem.W.kitOne K (.type "NoneType") (.ref a_BadCounts) = some false
  v_BadCounts : PySem.W.kitOne K (.ref a_BadCounts) (.type "ValueError") = some true
  a_is_number : Addr
  d_is_number : FuncData
  g_is_number : mg "is_number" = some (.ref a_is_number)
  f_is_number : Fun K "is_number" "is_number" st_is_number a_is_number d_is_number
  b_is_number : Binds K d_is_number ["thing"] []
  a_is_face : Addr
  d_is_face : FuncData
  g_is_face : mg "is_face" = some (.ref a_is_face)
  f_is_face : Fun K "is_face" "is_face" st_is_face a_is_face d_is_face
  b_is_face : Binds K d_is_face ["thing"] []
  a_is_die : Addr
  d_is_die : FuncData
  g_is_die : mg "is_die" = some (.ref a_is_die)
  f_is_die : Fun K "is_die" "is_die" st_is_die a_is_die d_is_die
  b_is_die : Binds K d_is_die ["thing"] []
  a_need_die : Addr
  d_need_die : FuncData
  g_need_die : mg "need_die" = some (.ref a_need_die)
  f_need_die : Fun K "need_die" "need_die" st_need_die a_need_die d_need_die
  b_need_die : Binds K d_need_die ["thing"] []
  a_need_dice : Addr
  d_need_dice : FuncData
  g_need_dice : mg "need_dice" = some (.ref a_need_dice)
  f_need_dice : Fun K "need_dice" "need_dice" st_need_dice a_need_dice d_need_dice
  b_need_dice : Binds K d_need_dice ["thing", "most"] []
  a_counts : Addr
  d_counts : FuncData
  g_counts : mg "counts" = some (.ref a_counts)
  f_counts : Fun K "counts" "counts" st_counts a_counts d_counts
  b_counts : Binds K d_counts ["dice"] []
  a_ways_with : Addr
  d_ways_with : FuncData
  g_ways_with : mg "ways_with" = some (.ref a_ways_with)
  f_ways_with : Fun K "ways_with" "ways_with" st_ways_with a_ways_with d_ways_with
  b_ways_with : Binds K d_ways_with ["ways", "die"] []
  a_pairs_of : Addr
  d_pairs_of : FuncData
  g_pairs_of : mg "pairs_of" = some (.ref a_pairs_of)
  f_pairs_of : Fun K "pairs_of" "pairs_of" st_pairs_of a_pairs_of d_pairs_of
  b_pairs_of : Binds K d_pairs_of ["rows", "many", "more", "least"] []
  a_alike : Addr
  d_alike : FuncData
  g_alike : mg "alike" = some (.ref a_alike)
  f_alike : Fun K "alike" "alike" st_alike a_alike d_alike
  b_alike : Binds K d_alike ["one", "other"] []
  a_need_many_faces : Addr
  d_need_many_faces : FuncData
  g_need_many_faces : mg "need_many_faces" = some (.ref a_need_many_faces)
  f_need_many_faces : Fun K "need_many_faces" "need_many_faces" st_need_many_faces a_need_many_faces d_need_many_faces
  b_need_many_faces : Binds K d_need_many_faces ["thing"] []
  a_need_pair_die : Addr
  d_need_pair_die : FuncData
  g_need_pair_die : mg "need_pair_die" = some (.ref a_need_pair_die)
  f_need_pair_die : Fun K "need_pair_die" "need_pair_die" st_need_pair_die a_need_pair_die d_need_pair_die
  b_need_pair_die : Binds K d_need_pair_die ["thing"] []
  a_need_counts : Addr
  d_need_counts : FuncData
  g_need_counts : mg "need_counts" = some (.ref a_need_counts)
  f_need_counts : Fun K "need_counts" "need_counts" st_need_counts a_need_counts d_need_counts
  b_need_counts : Binds K d_need_counts ["thing", "throws"] []
  a_is_row : Addr
  d_is_row : FuncData
  g_is_row : mg "is_row" = some (.ref a_is_row)
  f_is_row : Fun K "is_row" "is_row" st_is_row a_is_row d_is_row
  b_is_row : Binds K d_is_row ["thing"] []
  a_with_a_face_more : Addr
  d_with_a_face_more : FuncData
  g_with_a_face_more : mg "with_a_face_more" = some (.ref a_with_a_face_more)
  f_with_a_face_more : Fun K "with_a_face_more" "with_a_face_more" st_with_a_face_more a_with_a_face_more d_with_a_face_more
  b_with_a_face_more : Binds K d_with_a_face_more ["begun", "many", "more"] []
  a_without : Addr
  d_without : FuncData
  g_without : mg "without" = some (.ref a_without)
  f_without : Fun K "without" "without" st_without a_without d_without
  b_without : Binds K d_without ["left", "totals"] []
  a_law_draw : Addr
  d_law_draw : FuncData
  g_law_draw : mg "_law_draw" = some (.ref a_law_draw)
  f_law_draw : Fun K "_law_draw" "_law_draw" st_law_draw a_law_draw d_law_draw
  b_law_draw : Binds K d_law_draw ["_law_script", "_law_k"] []
  a_law_die : Addr
  d_law_die : FuncData
  g_law_die : mg "_law_die" = some (.ref a_law_die)
  f_law_die : Fun K "_law_die" "_law_die" st_law_die a_law_die d_law_die
  b_law_die : Binds K d_law_die ["_law_script", "_law_k", "_law_most", "_law_top"] []
  a_law_throws : Addr
  d_law_throws : FuncData
  g_law_throws : mg "_law_throws" = some (.ref a_law_throws)
  f_law_throws : Fun K "_law_throws" "_law_throws" st_law_throws a_law_throws d_law_throws
  b_law_throws : Binds K d_law_throws ["_law_dice"] []
  a_law_counted : Addr
  d_law_counted : FuncData
  g_law_counted : mg "_law_counted" = some (.ref a_law_counted)
  f_law_counted : Fun K "_law_counted" "_law_counted" st_law_counted a_law_counted d_law_counted
  b_law_counted : Binds K d_law_counted ["_law_sums"] []
  a_law_good : Addr
  d_law_good : FuncData
  g_law_good : mg "_law_good" = some (.ref a_law_good)
  f_law_good : Fun K "_law_good" "_law_good" st_law_good a_law_good d_law_good
  b_law_good : Binds K d_law_good ["_law_found", "_law_one", "_law_other"] []
  a_law_changed : Addr
  d_law_changed : FuncData
  g_law_changed : mg "_law_changed" = some (.ref a_law_changed)
  f_law_changed : Fun K "_law_changed" "_law_changed" st_law_changed a_law_changed d_law_changed
  b_law_changed : Binds K d_law_changed ["_law_pairs", "_law_by", "_law_lift"] []
  a_law : Addr
  d_law : FuncData
  g_law : mg "law" = some (.ref a_law)
  f_law : Fun K "law" "law" st_law a_law d_law
  b_law : Binds K d_law ["_law_script"] []
/-! ### plain functions: draws, dice -/
def cellN (ns : List Int) (k : Int) : Int := if ns = [] then 0 else 31 * ns.sum + ns.getD (k % (ns.length : Int)).toNat 0
def drawN (ns : List Int) (k : Int) : Int :=
  (cellN ns k % 1000000007 + 7919 * k + 13) * (cellN ns k % 1000000007 + 7919 * k + 13) % 1000000007 * (cellN ns k % 1000000007 + 7919 * k + 13) % 998244353 / 11
theorem draw_range (ns : List Int) (k : Int) : 0 ≤ drawN ns k ∧ drawN ns k < 90749487 := by
  unfold drawN
  generalize (cellN ns k % 1000000007 + 7919 * k + 13) * (cellN ns k % 1000000007 + 7919 * k + 13) % 1000000007 * (cellN ns k % 1000000007 + 7919 * k + 13) = z
  omega
def faceN (ns : List Int) (k top num : Int) (found : List Int) (j : Int) : Int :=
  if found ≠ [] ∧ num / 16 % 4 = 1 ∧ drawN ns (k + 1 + j) % (top + 1) % 3 = 0 then found.getD 0 0 else drawN ns (k + 1 + j) % (top + 1)
def dieFold (ns : List Int) (k top num : Int) : Nat → List Int
  | 0 => []
  | m + 1 => dieFold ns k top num m ++ [faceN ns k top num (dieFold ns k top num m) m]
def dieL (ns : List Int) (k most top : Int) : List Int := dieFold ns k top (drawN ns k) (1 + drawN ns k % most).toNat
theorem dieFold_len (ns : List Int) (k top num : Int) : ∀ m, (dieFold ns k top num m).length = m
  | 0 => rfl
  | m + 1 => by
    rw [dieFold, List.length_append, dieFold_len ns k top num m]
    rfl
theorem getD_mem0 {l : List Int} (h : l ≠ []) : l.getD 0 0 ∈ l := by
  cases l with
  | nil => exact absurd rfl h
  | cons a r => exact List.mem_cons_self
theorem dieFold_mem (ns : List Int) {k top num : Int} (ht : 0 ≤ top) : ∀ m, ∀ f ∈ dieFold ns k top num m, 0 ≤ f ∧ f ≤ top
  | 0, f, h => by simp [dieFold] at h
  | m + 1, f, h => by
    rw [dieFold] at h
    have ih := dieFold_mem ns (k := k) (num := num) ht m
    have p : 0 ≤ drawN ns (k + 1 + m) % (top + 1) ∧ drawN ns (k + 1 + m) % (top + 1) ≤ top :=
      ⟨Int.emod_nonneg _ (by omega), by have := Int.emod_lt_of_pos (drawN ns (k + 1 + m)) (show 0 < top + 1 by omega); omega⟩
    rcases List.mem_append.mp h with q | q
    · exact ih f q
    · rw [List.mem_singleton.mp q, faceN]
      split
      · rename_i c
        exact ih _ (getD_mem0 c.1)
      · exact p
theorem dieL_len (ns : List Int) (k top : Int) {most : Int} (hm : 0 < most) : 1 ≤ (dieL ns k most top).length ∧ ((dieL ns k most top).length : Int) ≤ most := by
  have h1 := Int.emod_nonneg (drawN ns k) (show most ≠ 0 by omega)
  have h2 := Int.emod_lt_of_pos (drawN ns k) hm
  unfold dieL
  rw [dieFold_len]
  omega
theorem dieL_mem (ns : List Int) {k most top : Int} (ht : 0 ≤ top) : ∀ f ∈ dieL ns k most top, 0 ≤ f ∧ f ≤ top := dieFold_mem ns ht _
section
variable {P : Program} {w : World} {K : PySem.W.Frag} {mg : Str → Option Value} {base : Heap}
/-! ### numbers, faces, dice -/
def spNumber : Sp := fun vs H Q _ => ∃ v n, vs = [v] ∧ Kd H v n ∧ Q (.bl (isNum v)) H
theorem num_read {D : Ends} {σ : L2.St} {H : Hp} {v : V} {n : String} {Q : VK} (hk : Kd H v n) (q : Q (.bl (isNum v)) H) :
    ∃ c, V.bl (isIntB v) = .bl c ∧ if c = true then (∃ (x c : V) (t u : Value) (b : Bool), [v, .ty "bool"] = [x, c] ∧ ClsV c u ∧ TyX K H x t ∧ PySem.W.kitOne K t u = some b ∧ ∃ c, V.bl b = .bl c ∧ Q (.bl (!c)) H) else Q (.bl false) H := by
  refine ⟨_, rfl, ?_⟩
  cases hk with
  | int i => exact iteT ⟨_, _, _, _, _, rfl, .ty _, (Kd.int i).ty, kit_ty (Kd.int (H := H) i).kBool, _, rfl, q⟩
  | bl b => exact iteT ⟨_, _, _, _, _, rfl, .ty _, (Kd.bl b).ty, kit_ty (Kd.bl (H := H) b).kBool, _, rfl, q⟩
  | _ => exact iteF q
theorem ok_is_number (T : Lay K mg) : FnOk P w K mg base CX0 1 T.a_is_number T.d_is_number ["thing"] spNumber := by
  refine T.f_is_number.ok sc_is_number (fun vs H Q E h => ?_) (fun cdv A outer s H vs Q E hr h => ?_)
  · obtain ⟨v, n, rfl, _⟩ := h
    rfl
  · obtain ⟨v, n, rfl, hk, q⟩ := h
    refine ⟨_, (pss_one (ps_ret (pe_and (pe_callB call_isi (by rfl) T.n_isinstance (by decide +kernel) (pa_cons (pv 0) (pa_cons (pe_bltn (v := .ty "int") (by rfl) T.n_int (by decide +kernel) rfl) pa_nil))) (pe_one (pe_not (pe_callB call_isi (by rfl) T.n_isinstance (by decide +kernel) (pa_cons (pv 0) (pa_cons (pe_bltn (v := .ty "bool") (by rfl) T.n_bool (by decide +kernel) rfl) pa_nil)))))))), ?_⟩
    exact ⟨v, rfl, _, _, _, _, _, rfl, .ty _, hk.ty, kit_ty hk.kInt, by
      obtain ⟨c, e, h⟩ := num_read (K := K) (D := { nx := fun _ _ => True, rt := fun _ _ => True }) (σ := []) hk q
      refine ⟨c, e, ?_⟩
      cases c with
      | true => exact iteT ⟨v, rfl, (if_pos rfl).mp h⟩
      | false => exact iteF ((if_neg Bool.false_ne_true).mp h)⟩
def faceB : V → Bool
  | .int i => decide (0 ≤ i) && decide (i ≤ 99)
  | _ => false
def spFace : Sp := fun vs H Q _ => ∃ v n, vs = [v] ∧ Kd H v n ∧ Q (.bl (faceB v)) H
theorem ok_is_face (T : Lay K mg) : FnOk P w K mg base CX0 2 T.a_is_face T.d_is_face ["thing"] spFace := by
  refine T.f_is_face.ok sc_is_face (fun vs H Q E h => ?_) (fun cdv A outer s H vs Q E hr h => ?_)
  · obtain ⟨v, n, rfl, _⟩ := h
    rfl
  · obtain ⟨v, n, rfl, hk, q⟩ := h
    refine ⟨_, (pss_one (ps_ret (pe_and (pe_call (ok_is_number T) (hr.mono (by decide)) (by rfl) T.g_is_number T.f_is_number.kp T.b_is_number .nil pass0 (pa_cons (pv 0) pa_nil)) (pe_one (pe_chain op_le op_le pe_int (pv 0) (pe_glob (v := .int 99) rfl T.c_GREATEST_FACE ⟨_, rfl⟩)))))), ?_⟩
    refine ⟨v, rfl, v, n, rfl, hk, _, rfl, ?_⟩
    cases hk with
    | int i =>
      refine iteT ⟨.int i, rfl, 0, i, rfl, rfl, _, rfl, iteD (fun h0 => ?_) (fun h0 => ?_)⟩
      · refine ⟨i, 99, rfl, rfl, ?_⟩
        have e : faceB (.int i) = decide (i ≤ 99) := by simp [faceB, h0]
        rw [e] at q
        exact q
      · have e : faceB (.int i) = false := by simp [faceB, h0]
        rw [e] at q
        exact q
    | _ => exact iteF q
def dieB (xs : List V) : Bool := decide (1 ≤ xs.length) && decide (xs.length ≤ 8) && xs.all faceB
def dieV (H : Hp) (v : V) : Bool := match lstOf H v with
  | some xs => dieB xs
  | none => false
/-- what a thing may be that is asked: its kind is known, and the kinds of a list's items -/
structure Thing (H : Hp) (v : V) : Prop where
  kd : ∃ n, Kd H v n
  all : ∀ xs, lstOf H v = some xs → ∀ x ∈ xs, ∃ m, Kd H x m
def spIsDie : Sp := fun vs H Q _ => ∃ v, vs = [v] ∧ Thing H v ∧ ∀ H', Same H H' → Q (.bl (dieV H v)) H'
theorem all_map {xs : List V} {p : V → Bool} : (xs.map p).all id = xs.all p := by
  rw [List.all_map]
  rfl
theorem ok_is_die (T : Lay K mg) : FnOk P w K mg base CX0 3 T.a_is_die T.d_is_die ["thing"] spIsDie := by
  refine T.f_is_die.ok sc_is_die (fun vs H Q E h => ?_) (fun cdv A outer s H vs Q E hr h => ?_)
  · obtain ⟨v, rfl, _⟩ := h
    rfl
  · obtain ⟨v, rfl, ⟨⟨n, hk⟩, hall⟩, q⟩ := h
    refine ⟨_, (pss_cons (ps_if (PW.pt (pw_or (pt_not (pt_val (pe_callB call_isi (by rfl) T.n_isinstance (by decide +kernel) (pa_cons (pv 0) (pa_cons (pe_bltn (v := .ty "list") (by rfl) T.n_list (by decide +kernel) rfl) pa_nil))))) (pw_or1 (pt_not (pt_chain op_le op_le pe_int (pe_callB call_len_seq (by rfl) T.n_len PySem.boot_len (pa_cons (pv 0) pa_nil)) (pe_glob (v := .int 8) rfl T.c_MOST_FACES ⟨_, rfl⟩)))))) (pss_one (ps_ret pe_bl)) pss_nil)
    (pss_one (ps_ret (pe_callB (cr_all rfl) (by rfl) T.n_all (by decide +kernel) (pa_cons (pe_lc (own := [("face", 1)]) (g := (gName 1)) rfl sc_is_die.nd (pi_list (pv 0)) (blkOk_by (N := nm_is_die) (sc := defScope st_is_die) (by decide +kernel)) (fun _ _ _ _ _ => (pg_name (i := 1) sc_is_die.nd rfl (Or.inl rfl))) (fun _ _ _ _ _ => pts_nil) (fun _ _ _ _ _ => (pe_call (ok_is_face T) (hr.mono (by decide)) (by rfl) T.g_is_face T.f_is_face.kp T.b_is_face .nil pass0 (pa_cons (pv 1) pa_nil)))) pa_nil))))), ?_⟩
    cases hl : lstOf H v with
    | none =>
      have e : dieV H v = false := by unfold dieV; rw [hl]
      rw [e] at q
      exact ⟨v, rfl, v, _, _, _, _, rfl, .ty _, hk.ty, kit_ty (hk.kListN hl), _, rfl, iteT (iteT (q H (Same.refl H)))⟩
    | some xs =>
      have ed : dieV H v = dieB xs := by unfold dieV; rw [hl]
      rw [ed] at q
      obtain ⟨a, rfl, ha⟩ := lstOf_some hl
      refine ⟨.ref a, rfl, .ref a, _, _, _, _, rfl, .ty _, hk.ty, kit_ty (hk.kListS hl), _, rfl, iteF ?_⟩
      refine ⟨.ref a, rfl, a, xs, rfl, .inl (sq_of ha), 1, _, rfl, rfl, _, rfl, iteD (fun h1 => ?_) (fun h1 => ?_)⟩
      · refine ⟨_, 8, rfl, rfl, _, rfl, ?_⟩
        by_cases h2 : (xs.length : Int) ≤ 8
        · rw [decide_eq_true h2]
          refine iteF ?_
          -- all([is_face(face) for face in thing])
          refine ⟨.ref a, rfl, a, rfl, ⟨xs, sq_of ha⟩, fun D nD => ?_⟩
          refine lc_all (K := K) (fun x => .bl (faceB x)) nD (sq_of ha) (by omega) (fun x H' R hx e r N => ?_) (fun H' e hD => ?_)
          · obtain ⟨m, km⟩ := hall xs hl x hx
            exact ⟨rfl, iteT (B := N H') ⟨x, rfl, x, m, rfl, km.mono e, r H' (Same.refl H')⟩⟩
          · refine ⟨D, xs.map faceB, rfl, ?_, ?_⟩
            · rw [List.map_map]
              exact sq_of hD
            · have e2 : dieB xs = xs.all faceB := by
                have h3 : 1 ≤ xs.length := by omega
                have h4 : xs.length ≤ 8 := by omega
                simp [dieB, h3, h4]
              rw [e2] at q
              rw [all_map]
              exact q H' e
        · rw [decide_eq_false h2]
          have e2 : dieB xs = false := by
            have h4 : ¬ xs.length ≤ 8 := by omega
            simp [dieB, h4]
          rw [e2] at q
          exact iteT (q H (Same.refl H))
      · have e2 : dieB xs = false := by
          have h4 : ¬ 1 ≤ xs.length := by omega
          simp [dieB, h4]
        rw [e2] at q
        exact ⟨_, rfl, iteT (q H (Same.refl H))⟩
/-! ### a refusal, shares -/
def spNeedDie (K : PySem.W.Frag) (C : Addr) : Sp := fun vs H Q E => ∃ v, vs = [v] ∧ Thing H v ∧ (dieV H v = true → ∀ H', Same H H' → Q .non H') ∧ (dieV H v = false → ∀ H', Same H H' → E (.ref C) none H')
theorem ok_need_die (T : Lay K mg) : FnOk P w K mg base (L2.CX P w) 4 T.a_need_die T.d_need_die ["thing"] (spNeedDie K T.a_BadDie) := by
  refine T.f_need_die.okX sc_need_die (fun vs H Q E h => ?_) (fun cdv A outer s H vs Q E hr h => ?_)
  · obtain ⟨v, rfl, _⟩ := h
    rfl
  · obtain ⟨v, rfl, th, q1, q2⟩ := h
    refine ⟨_, (pss_one (ps_if (pt_not (pt_val (pe_call (ok_is_die T) (hr.mono (by decide)) (by rfl) T.g_is_die T.f_is_die.kp T.b_is_die .nil pass0 (pa_cons (pv 0) pa_nil)))) (pss_one (ps_raise rfl (takes_of rfl rfl rfl rfl) (SkE.pmk_own1 PySem.F.excBase_ValueError T.x_BadDie.x T.g_BadDie T.x_BadDie.k (raises_own T.x_BadDie.b T.x_BadDie.t) rfl (pe_joined (PJ.cons pe_str (PJ.cons (pe_fmt (pe_glob (v := .int 8) rfl T.c_MOST_FACES ⟨_, rfl⟩)) (PJ.cons pe_str (PJ.cons (pe_fmt (pe_glob (v := .int 99) rfl T.c_GREATEST_FACE ⟨_, rfl⟩)) PJ.nil)))))))) pss_nil)), ?_⟩
    refine ⟨v, rfl, v, rfl, th, fun H1 e1 => ⟨_, rfl, ?_⟩⟩
    cases hd : dieV H v with
    | true => exact iteF (q1 hd H1 e1)
    | false =>
      refine iteT ?_
      refine ⟨_, rfl, by decide +kernel, .inr ⟨8, rfl, by decide +kernel, _, rfl, by decide +kernel, _, rfl, by decide +kernel, .inr ⟨99, rfl, by decide +kernel, _, rfl, by decide +kernel, ?_⟩⟩⟩
      exact q2 hd H1 e1
/-! ### dice -/
/-! ### things in a later heap -/
theorem lstOf_same {H H' : Hp} {v : V} {n : String} (k : Kd H v n) (e : Same H H') : lstOf H' v = lstOf H v := by
  have no : ∀ {a : Addr} {o : HO}, H a = some o → (∀ xs, o ≠ .lst xs) → lstOf H' (.ref a) = lstOf H (.ref a) := by
    intro a o h hn
    have h' := e _ _ h
    show (match H' a with
      | some (.lst xs) => some xs
      | _ => none) = (match H a with
      | some (.lst xs) => some xs
      | _ => none)
    rw [h, h']
  cases k with
  | lst h => rw [lstOf_ref h, lstOf_ref (e _ _ h)]
  | tup h => exact no h fun xs z => nomatch z
  | dct h => exact no h fun xs z => nomatch z
  | _ => rfl
theorem Thing.mono {H H' : Hp} {v : V} (e : Same H H') (t : Thing H v) : Thing H' v where
  kd := by
    obtain ⟨n, k⟩ := t.kd
    exact ⟨n, k.mono e⟩
  all := fun xs h x hx => by
    obtain ⟨n, k⟩ := t.kd
    rw [lstOf_same k e] at h
    obtain ⟨m, k2⟩ := t.all xs h x hx
    exact ⟨m, k2.mono e⟩
theorem dieV_same {H H' : Hp} {v : V} (e : Same H H') (t : Thing H v) : dieV H' v = dieV H v := by
  obtain ⟨n, k⟩ := t.kd
  unfold dieV
  rw [lstOf_same k e]
/-- a thing that is asked where dice are due -/
structure DThing (H : Hp) (v : V) : Prop where
  kd : ∃ n, Kd H v n
  all : ∀ xs, lstOf H v = some xs → ∀ x ∈ xs, Thing H x
def diceB (H : Hp) (m : Int) (xs : List V) : Bool := decide (1 ≤ (xs.length : Int)) && decide ((xs.length : Int) ≤ m) && xs.all (dieV H)
def diceV (H : Hp) (m : Int) (v : V) : Bool := match lstOf H v with
  | some xs => diceB H m xs
  | none => false
def spNeedDice (C : Addr) : Sp := fun vs H Q E => ∃ (v : V) (m : Int), vs = [v, .int m] ∧ (m = 4 ∨ m = 8) ∧ DThing H v ∧ (diceV H m v = true → ∀ H', Same H H' → Q .non H') ∧ (diceV H m v = false → ∀ H', Same H H' → E (.ref C) none H')
theorem ok_need_dice (T : Lay K mg) : FnOk P w K mg base (L2.CX P w) 4 T.a_need_dice T.d_need_dice ["thing", "most"] (spNeedDice T.a_BadDice) := by
  refine T.f_need_dice.okX sc_need_dice (fun vs H Q E h => ?_) (fun cdv A outer s H vs Q E hr h => ?_)
  · obtain ⟨v, m, rfl, _⟩ := h
    rfl
  · obtain ⟨v, m, rfl, hm, th, q1, q2⟩ := h
    refine ⟨_, (pss_cons (ps_if (PW.pt (pw_or (pt_not (pt_val (pe_callB call_isi (by rfl) T.n_isinstance (by decide +kernel) (pa_cons (pv 0) (pa_cons (pe_bltn (v := .ty "list") (by rfl) T.n_list (by decide +kernel) rfl) pa_nil))))) (pw_or1 (pt_not (pt_chain op_le op_le pe_int (pe_callB call_len_seq (by rfl) T.n_len PySem.boot_len (pa_cons (pv 0) pa_nil)) (pv 1)))))) (pss_one (ps_raise rfl (takes_of rfl rfl rfl rfl) (SkE.pmk_own1 PySem.F.excBase_ValueError T.x_BadDice.x T.g_BadDice T.x_BadDice.k (raises_own T.x_BadDice.b T.x_BadDice.t) rfl (pe_joined (PJ.cons pe_str (PJ.cons (pe_fmt (pv 1)) (PJ.cons pe_str PJ.nil))))))) pss_nil)
    (pss_one (ps_if (pt_not (pt_val (pe_callB (cr_all rfl) (by rfl) T.n_all (by decide +kernel) (pa_cons (pe_lc (own := [("die", 2)]) (g := (gName 2)) rfl sc_need_dice.nd (pi_list (pv 0)) (blkOk_by (N := nm_need_dice) (sc := defScope st_need_dice) (by decide +kernel)) (fun _ _ _ _ _ => (pg_name (i := 2) sc_need_dice.nd rfl (Or.inl rfl))) (fun _ _ _ _ _ => pts_nil) (fun _ _ _ _ _ => (pe_call (ok_is_die T) (hr.mono (by decide)) (by rfl) T.g_is_die T.f_is_die.kp T.b_is_die .nil pass0 (pa_cons (pv 2) pa_nil)))) pa_nil)))) (pss_one (ps_raise rfl (takes_of rfl rfl rfl rfl) (pmk_own PySem.F.excBase_ValueError T.x_BadDice.x T.g_BadDice T.x_BadDice.k (raises_own T.x_BadDice.b T.x_BadDice.t) rfl))) pss_nil))), ?_⟩
    -- the first refusal
    have bad : ∀ H1, Same H H1 → diceV H m v = false → ∀ (st : L2.St), st[1]? = some (some (.int m)) →
        tJs [tC (.str "dice are a list of 1 to "), tFmt (tVar 1), tC (.str " dice")] Str.empty st H1 (fun out H2 => E (.ref T.a_BadDice) none H2) := by
      intro H1 e1 hd st h1
      rcases hm with rfl | rfl
      · exact ⟨_, rfl, by decide +kernel, _, h1, .inr ⟨_, rfl, by decide +kernel, _, rfl, by decide +kernel, _, rfl, by decide +kernel, q2 hd H1 e1⟩⟩
      · exact ⟨_, rfl, by decide +kernel, _, h1, .inr ⟨_, rfl, by decide +kernel, _, rfl, by decide +kernel, _, rfl, by decide +kernel, q2 hd H1 e1⟩⟩
    obtain ⟨n, hk⟩ := th.kd
    cases hl : lstOf H v with
    | none =>
      have e : diceV H m v = false := by unfold diceV; rw [hl]
      exact ⟨v, rfl, v, _, _, _, _, rfl, .ty _, hk.ty, kit_ty (hk.kListN hl), _, rfl, iteT (iteT (bad H (Same.refl H) e _ rfl))⟩
    | some xs =>
      have ed : diceV H m v = diceB H m xs := by unfold diceV; rw [hl]
      obtain ⟨a, rfl, ha⟩ := lstOf_some hl
      refine ⟨.ref a, rfl, .ref a, _, _, _, _, rfl, .ty _, hk.ty, kit_ty (hk.kListS hl), _, rfl, iteF ?_⟩
      refine ⟨.ref a, rfl, a, xs, rfl, .inl (sq_of ha), 1, _, rfl, rfl, _, rfl, iteD (fun h1 => ?_) (fun h1 => ?_)⟩
      · refine ⟨_, rfl, _, m, rfl, rfl, _, rfl, ?_⟩
        by_cases h2 : (xs.length : Int) ≤ m
        · rw [decide_eq_true h2]
          refine iteF ?_
          -- not all([is_die(die) for die in thing])
          refine ⟨.ref a, rfl, a, rfl, ⟨xs, sq_of ha⟩, fun D nD => ?_⟩
          have hlen : xs.length < 1000000 := by rcases hm with rfl | rfl <;> omega
          refine lc_all (K := K) (fun x => .bl (dieV H x)) nD (sq_of ha) hlen (fun x H' R hx e r N => ?_) (fun H' e hD => ?_)
          · have tx := th.all xs hl x hx
            refine ⟨rfl, iteT (B := N H') ⟨x, rfl, x, rfl, tx.mono e, fun H4 e4 => ?_⟩⟩
            rw [dieV_same e tx]
            exact r H4 e4
          · refine ⟨D, xs.map (dieV H), rfl, ?_, ?_⟩
            · rw [List.map_map]
              exact sq_of hD
            · rw [all_map]
              have e2 : diceB H m xs = xs.all (dieV H) := by
                unfold diceB
                rw [decide_eq_true h1, decide_eq_true h2]
                rfl
              refine ⟨_, rfl, ?_⟩
              cases hx : xs.all (dieV H) with
              | true => exact iteF (q1 (by rw [ed, e2, hx]) H' e)
              | false => exact iteT (q2 (by rw [ed, e2, hx]) H' e)
        · rw [decide_eq_false h2]
          have e2 : diceV H m (.ref a) = false := by
            rw [ed]
            unfold diceB
            rw [decide_eq_false h2, Bool.and_false, Bool.false_and]
          exact iteT (bad H (Same.refl H) e2 _ rfl)
      · have e2 : diceV H m (.ref a) = false := by
          rw [ed]
          unfold diceB
          rw [decide_eq_false h1, Bool.false_and, Bool.false_and]
        exact ⟨_, rfl, iteT (bad H (Same.refl H) e2 _ rfl)⟩
/-! ### numbers of faces -/
def manyB : V → Bool
  | .int z => decide (1 ≤ z) && decide (z ≤ 6)
  | _ => false
def spNeedMany (N : Addr) : Sp := fun vs H Q E => ∃ v n, vs = [v] ∧ Kd H v n ∧ (manyB v = true → ∀ H', Same H H' → Q .non H') ∧ (manyB v = false → ∀ H', Same H H' → E (.ref N) none H')
theorem ok_need_many_faces (T : Lay K mg) : FnOk P w K mg base (L2.CX P w) 2 T.a_need_many_faces T.d_need_many_faces ["thing"] (spNeedMany T.a_BadNumber) := by
  refine T.f_need_many_faces.okX sc_need_many_faces (fun vs H Q E h => ?_) (fun cdv A outer s H vs Q E hr h => ?_)
  · obtain ⟨v, n, rfl, _⟩ := h
    rfl
  · obtain ⟨v, n, rfl, hk, q1, q2⟩ := h
    refine ⟨_, (pss_one (ps_if (PW.pt (pw_or (pt_not (pt_val (pe_call (ok_is_number T) (hr.mono (by decide)) (by rfl) T.g_is_number T.f_is_number.kp T.b_is_number .nil pass0 (pa_cons (pv 0) pa_nil)))) (pw_or1 (pt_not (pt_chain op_le op_le pe_int (pv 0) (pe_glob (v := .int 6) rfl T.c_MOST_PAIR_FACES ⟨_, rfl⟩)))))) (pss_one (ps_raise rfl (takes_of rfl rfl rfl rfl) (SkE.pmk_own1 PySem.F.excBase_ValueError T.x_BadNumber.x T.g_BadNumber T.x_BadNumber.k (raises_own T.x_BadNumber.b T.x_BadNumber.t) rfl (pe_joined (PJ.cons pe_str (PJ.cons (pe_fmt (pe_glob (v := .int 6) rfl T.c_MOST_PAIR_FACES ⟨_, rfl⟩)) (PJ.cons pe_str PJ.nil))))))) pss_nil)), ?_⟩
    have bad : manyB v = false → tJs [tC (.str "a die of a pair has 1 to "), tFmt (tC (.int 6)), tC (.str " faces")] Str.empty [some v] H (fun out H2 => E (.ref T.a_BadNumber) none H2) := by
      intro hb
      exact ⟨_, rfl, by decide +kernel, .inr ⟨6, rfl, by decide +kernel, _, rfl, by decide +kernel, _, rfl, by decide +kernel, q2 hb H (Same.refl H)⟩⟩
    refine ⟨_, rfl, v, n, rfl, hk, _, rfl, ?_⟩
    cases hk with
    | int z =>
      refine iteF ?_
      refine ⟨_, rfl, 1, z, rfl, rfl, _, rfl, iteD (fun h1 => ?_) (fun h1 => ?_)⟩
      · refine ⟨_, 6, rfl, rfl, _, rfl, ?_⟩
        by_cases h2 : z ≤ 6
        · rw [decide_eq_true h2]
          exact iteF (q1 (by show (decide (1 ≤ z) && decide (z ≤ 6)) = true; rw [decide_eq_true h1, decide_eq_true h2]; rfl) H (Same.refl H))
        · rw [decide_eq_false h2]
          exact iteT (bad (by show (decide (1 ≤ z) && decide (z ≤ 6)) = false; rw [decide_eq_false h2, Bool.and_false]))
      · exact ⟨_, rfl, iteT (bad (by show (decide (1 ≤ z) && decide (z ≤ 6)) = false; rw [decide_eq_false h1, Bool.false_and]))⟩
    | _ => exact iteT (bad rfl)
/-! ### rows -/
def tupOf (H : Hp) : V → Option (List V)
  | .ref a => match H a with
    | some (.tup xs) => some xs
    | _ => none
  | _ => none
theorem tupOf_ref {H : Hp} {a : Addr} {xs : List V} (h : H a = some (.tup xs)) : tupOf H (.ref a) = some xs := by
  show (match H a with
    | some (.tup xs) => some xs
    | _ => none) = some xs
  rw [h]
theorem tupOf_some {H : Hp} {v : V} {xs : List V} (h : tupOf H v = some xs) : ∃ a, v = .ref a ∧ H a = some (.tup xs) := by
  cases v with
  | ref a =>
    refine ⟨a, rfl, ?_⟩
    have h : (match H a with
      | some (.tup xs) => some xs
      | _ => none) = some xs := h
    split at h
    · rename_i ys e
      cases h
      exact e
    · cases h
  | _ => cases h
def pairB : V → V → Bool
  | .int s, .int n => decide (0 ≤ s) && decide (s ≤ 198) && decide (1 ≤ n)
  | _, _ => false
def rowB : List V → Bool
  | [x, y] => pairB x y
  | _ => false
def rowV (H : Hp) (v : V) : Bool := match tupOf H v with
  | some xs => rowB xs
  | none => false
structure RThing (H : Hp) (v : V) : Prop where
  kd : ∃ n, Kd H v n
  all : ∀ xs, tupOf H v = some xs → ∀ x ∈ xs, ∃ m, Kd H x m
theorem Kd.kTupN {H : Hp} {v : V} {n : String} (k : Kd H v n) (h : tupOf H v = none) : kitB n "tuple" = some false := by
  cases k with
  | tup e => rw [tupOf_ref e] at h; cases h
  | _ => decide +kernel
theorem Kd.kTupS {H : Hp} {v : V} {n : String} {xs : List V} (k : Kd H v n) (h : tupOf H v = some xs) : kitB n "tuple" = some true := by
  obtain ⟨a, rfl, e⟩ := tupOf_some h
  cases k with
  | lst e' => rw [e] at e'; cases e'
  | tup e' => decide +kernel
  | dct e' => rw [e] at e'; cases e'
def spIsRow : Sp := fun vs H Q _ => ∃ v, vs = [v] ∧ RThing H v ∧ ∀ H', Same H H' → Q (.bl (rowV H v)) H'
theorem ok_is_row (T : Lay K mg) : FnOk P w K mg base CX0 2 T.a_is_row T.d_is_row ["thing"] spIsRow := by
  refine T.f_is_row.ok sc_is_row (fun vs H Q E h => ?_) (fun cdv A outer s H vs Q E hr h => ?_)
  · obtain ⟨v, rfl, _⟩ := h
    rfl
  · obtain ⟨v, rfl, ⟨⟨n, hk⟩, hall⟩, q⟩ := h
    refine ⟨_, (pss_cons (ps_if (PW.pt (pw_or (pt_not (pt_val (pe_callB call_isi (by rfl) T.n_isinstance (by decide +kernel) (pa_cons (pv 0) (pa_cons (pe_bltn (v := .ty "tuple") (by rfl) T.n_tuple (by decide +kernel) rfl) pa_nil))))) (pw_or1 (pt_cmpR op_ne (pe_callB call_len_seq (by rfl) T.n_len PySem.boot_len (pa_cons (pv 0) pa_nil)) pe_int (nomark _))))) (pss_one (ps_ret pe_bl)) pss_nil)
    (pss_cons (ps_asg (pv 0) (pg_tup rfl (pgs_cons (pg_name (i := 1) sc_is_row.nd rfl (Or.inl rfl)) (pgs_cons (pg_name (i := 2) sc_is_row.nd rfl (Or.inl rfl)) pgs_nil))))
    (pss_cons (ps_if (PW.pt (pw_or (pt_not (pt_val (pe_call (ok_is_number T) (hr.mono (by decide)) (by rfl) T.g_is_number T.f_is_number.kp T.b_is_number .nil pass0 (pa_cons (pv 1) pa_nil)))) (pw_or1 (pt_not (pt_val (pe_call (ok_is_number T) (hr.mono (by decide)) (by rfl) T.g_is_number T.f_is_number.kp T.b_is_number .nil pass0 (pa_cons (pv 2) pa_nil))))))) (pss_one (ps_ret pe_bl)) pss_nil)
    (pss_one (ps_ret (pe_and (pe_chain op_le op_le pe_int (pv 1) (pe_glob (v := .int 198) rfl T.c_GREATEST_SUM ⟨_, rfl⟩)) (pe_one (pe_cmpR op_ge (pv 2) pe_int (nomark _))))))))), ?_⟩
    replace q := q H (Same.refl H)
    cases ht : tupOf H v with
    | none =>
      have e : rowV H v = false := by unfold rowV; rw [ht]
      rw [e] at q
      exact ⟨v, rfl, v, _, _, _, _, rfl, .ty _, hk.ty, kit_ty (hk.kTupN ht), _, rfl, iteT (iteT q)⟩
    | some xs =>
      have ed : rowV H v = rowB xs := by unfold rowV; rw [ht]
      rw [ed] at q
      obtain ⟨a, rfl, ha⟩ := tupOf_some ht
      refine ⟨.ref a, rfl, .ref a, _, _, _, _, rfl, .ty _, hk.ty, kit_ty (hk.kTupS ht), _, rfl, iteF ?_⟩
      refine ⟨.ref a, rfl, a, xs, rfl, .inr (st_of ha), ?_⟩
      refine ⟨rfl, _, rfl, ?_⟩
      rw [dec_int]
      have other : ∀ xs : List V, xs.length ≠ 2 → rowB xs = false := by
        intro xs h
        match xs, h with
        | [], _ => rfl
        | [_], _ => rfl
        | [_, _], h => exact absurd rfl h
        | _ :: _ :: _ :: _, _ => rfl
      by_cases h2 : xs.length = 2
      · rw [show ((xs.length : Int) == 2) = true by rw [h2]; rfl]
        refine iteF ?_
        match xs, h2, ha, hall, ht, q with
        | [x, y], _, ha, hall, ht, q =>
          obtain ⟨nx, kx⟩ := hall _ ht x (by simp)
          obtain ⟨ny, ky⟩ := hall _ ht y (by simp)
          refine ⟨_, rfl, a, _, rfl, st_of ha, rfl, _, _, rfl, _, _, rfl, rfl, ?_⟩
          refine ⟨_, rfl, x, nx, rfl, kx, _, rfl, ?_⟩
          cases kx with
          | int s =>
            refine iteF ⟨_, rfl, y, ny, rfl, ky, _, rfl, ?_⟩
            cases ky with
            | int m =>
              refine iteF ⟨_, rfl, 0, s, rfl, rfl, _, rfl, ?_⟩
              have hb : rowB [V.int s, V.int m] = (decide (0 ≤ s) && decide (s ≤ 198) && decide (1 ≤ m)) := rfl
              rw [hb] at q
              refine iteD (fun h1 => ?_) (fun h1 => ?_)
              · refine ⟨s, 198, rfl, rfl, _, rfl, iteD (fun h2 => ?_) (fun h2 => ?_)⟩
                · refine ⟨_, rfl, m, 1, rfl, rfl, ?_⟩
                  rw [decide_eq_true h1, decide_eq_true h2] at q
                  exact q
                · rw [decide_eq_false h2, Bool.and_false, Bool.false_and] at q
                  exact q
              · rw [decide_eq_false h1, Bool.false_and, Bool.false_and] at q
                exact ⟨_, rfl, q⟩
            | _ => exact iteT q
          | _ => exact iteT q
      · have e := other xs h2
        rw [e] at q
        rw [show ((xs.length : Int) == 2) = false by rw [beq_eq_false_iff_ne]; omega]
        exact iteT q
/-! ### a draw -/
def spDraw (K : PySem.W.Frag) : Sp := fun vs H Q _ => ∃ (a : Addr) (ns : List Int) (k : Int), vs = [.ref a, .int k] ∧ SqL K H a (ns.map V.int) ∧ ns.length ≤ 1000 ∧ 0 ≤ k ∧ k ≤ 1000000 ∧ ∀ H', Same H H' → Q (.int (drawN ns k)) H'
theorem ok_law_draw (T : Lay K mg) : FnOk P w K mg base CX0 1 T.a_law_draw T.d_law_draw ["_law_script", "_law_k"] (spDraw K) := by
  refine T.f_law_draw.ok sc_law_draw (fun vs H Q E h => ?_) (fun cdv A outer s H vs Q E hr h => ?_)
  · obtain ⟨a, ns, k, rfl, _⟩ := h
    rfl
  · obtain ⟨a, ns, k, rfl, hS, hl, h0, h1, q⟩ := h
    refine ⟨_, (pss_cons (ps_set (i := 2) sc_law_draw.nd rfl (Or.inl rfl) pe_int)
    (pss_cons (ps_if (pt_cmpR (op_neP hr.units) (pv 0) (pe_lst pa_nil) (nomark _)) (pss_one (ps_set (i := 2) sc_law_draw.nd rfl (Or.inl rfl) (pe_op op_add (pe_op op_mul pe_int (pe_callB (cr_sum rfl) (by rfl) T.n_sum (by decide +kernel) (pa_cons (pv 0) pa_nil))) (pe_ix ix_list (pv 0) (pe_op op_mod (pv 1) (pe_callB call_len_seq (by rfl) T.n_len PySem.boot_len (pa_cons (pv 0) pa_nil))) (fun _ _ => rfl))))) pss_nil)
    (pss_cons (ps_set (i := 3) sc_law_draw.nd rfl (Or.inl rfl) (pe_op op_add (pe_op op_add (pe_op op_mod (pv 2) pe_int) (pe_op op_mul pe_int (pv 1))) pe_int))
    (pss_one (ps_ret (pe_op op_fdiv (pe_op op_mod (pe_op op_mul (pe_op op_mod (pe_op op_mul (pv 3) (pv 3)) pe_int) (pv 3)) pe_int) pe_int)))))), ?_⟩
    refine ⟨_, rfl, Nat.zero_le _, fun p np => ?_⟩
    have e1 : Same H (upd H p (.lst [])) := same_new np
    have hS1 := e1.seq hS
    -- the rest, from a cell
    have rest : ∀ c : Int, c = cellN ns k → tSeq (tAsg (tOp (rI0 fun i j => .int (i + j)) (tOp (rI0 fun i j => .int (i + j)) (tOp (rI (fun _ j => 0 < j) fun i j => .int (i % j)) (tVar 2) (tC (.int 1000000007))) (tOp (rI CMul fun i j => .int (i * j)) (tC (.int 7919)) (tVar 1))) (tC (.int 13))) (gName 3))
        (tRet (tOp (rI CDiv fun i j => .int (i / j)) (tOp (rI (fun _ j => 0 < j) fun i j => .int (i % j)) (tOp (rI CMul fun i j => .int (i * j)) (tOp (rI (fun _ j => 0 < j) fun i j => .int (i % j)) (tOp (rI CMul fun i j => .int (i * j)) (tVar 3) (tVar 3)) (tC (.int 1000000007))) (tVar 3)) (tC (.int 998244353))) (tC (.int 11))))
        { nx := fun _ H' => Q .non H', rt := Q } [some (.ref a), some (.int k), some (.int c), none] (upd H p (.lst [])) := by
      intro c hc
      have hm : 0 ≤ c % 1000000007 ∧ c % 1000000007 < 1000000007 := by omega
      have hb : -(2 ^ 64) < c % 1000000007 + 7919 * k + 13 ∧ c % 1000000007 + 7919 * k + 13 < 2 ^ 64 := by omega
      refine ⟨_, rfl, c, _, rfl, rfl, md rfl, _, rfl, _, _, rfl, rfl, .inl (by decide), _, _, rfl, rfl, _, _, rfl, rfl, ?_⟩
      refine ⟨_, rfl, _, rfl, _, _, rfl, rfl, .inl hb, _, _, rfl, rfl, md rfl, _, rfl, _, _, rfl, rfl, .inr hb, _, _, rfl, rfl, md rfl, _, _, rfl, rfl, dv rfl, ?_⟩
      have := q _ e1
      rw [hc]
      exact this
    refine ne_is (is_ints hS1) (is_list (α := Int) (sq_of upd_same) .nil) ⟨_, rfl, iteND (fun hn => ?_) (fun hn => ?_)⟩
    · have hpos : 0 < ns.length := by
        cases ns with
        | nil => exact absurd rfl hn
        | cons x r => exact Nat.succ_pos _
      have hi0 := Int.emod_nonneg k (show (ns.length : Int) ≠ 0 by omega)
      have hi1 := Int.emod_lt_of_pos k (show 0 < (ns.length : Int) by omega)
      have hi : (k % (ns.length : Int)).toNat < ns.length := by omega
      refine ⟨_, rfl, a, ns, rfl, hS1, _, _, rfl, rfl, .inl (by decide), ?_⟩
      refine ⟨_, rfl, _, rfl, _, rfl, a, _, rfl, .inl hS1, k, _, rfl, rfl, (by rw [List.length_map]; omega), ?_⟩
      refine ⟨a, _, _, .int (ns.getD (k % (ns.length : Int)).toNat 0), rfl, rfl, hS1, ?_, _, _, rfl, rfl, ?_⟩
      · refine at_of (j := (k % (ns.length : Int)).toNat) ?_ ?_
        · rw [List.length_map]
          omega
        · rw [List.getElem?_map, List.getElem?_eq_getElem hi, List.getD_eq_getElem?_getD, List.getElem?_eq_getElem hi]
          rfl
      · refine rest _ ?_
        rw [cellN, if_neg hn]
    · refine rest 0 ?_
      rw [cellN, if_pos hn]
/-! ### a drawn die -/
def spDie (K : PySem.W.Frag) : Sp := fun vs H Q _ => ∃ (a : Addr) (ns : List Int) (k most top : Int), vs = [.ref a, .int k, .int most, .int top] ∧ SqL K H a (ns.map V.int) ∧ ns.length ≤ 1000 ∧ 0 ≤ k ∧ k ≤ 900000 ∧ 0 < most ∧ most ≤ 1000 ∧ 0 ≤ top ∧ top ≤ 1000000 ∧
  ∀ H' p, Same H H' → H p = none → H' p = some (.lst ((dieL ns k most top).map V.int)) → Q (.ref p) H'
theorem ok_law_die (T : Lay K mg) : FnOk P w K mg base CX0 2 T.a_law_die T.d_law_die ["_law_script", "_law_k", "_law_most", "_law_top"] (spDie K) := by
  refine T.f_law_die.ok sc_law_die (fun vs H Q E h => ?_) (fun cdv A outer s H vs Q E hr h => ?_)
  · obtain ⟨a, ns, k, most, top, rfl, _⟩ := h
    rfl
  · obtain ⟨a, ns, k, most, top, rfl, hS, hl, h0, h1, m0, m1, t0, t1, q⟩ := h
    refine ⟨_, (pss_cons (ps_set (i := 4) sc_law_die.nd rfl (Or.inl rfl) (pe_call (ok_law_draw T) (hr.mono (by decide)) (by rfl) T.g_law_draw T.f_law_draw.kp T.b_law_draw .nil pass0 (pa_cons (pv 0) (pa_cons (pv 1) pa_nil))))
    (pss_cons (ps_set (i := 5) sc_law_die.nd rfl (Or.inl rfl) (pe_lst pa_nil))
    (pss_cons (ps_for PassesOwn.never rfl (pi_range1 (by rfl) T.n_range (pa_cons (pe_op op_add pe_int (pe_op op_mod (pv 4) (pv 2))) pa_nil)) (pg_name (i := 6) sc_law_die.nd rfl (Or.inl rfl)) (pss_cons (ps_set (i := 7) sc_law_die.nd rfl (Or.inl rfl) (pe_op op_mod (pe_call (ok_law_draw T) (hr.mono (by decide)) (by rfl) T.g_law_draw T.f_law_draw.kp T.b_law_draw .nil pass0 (pa_cons (pv 0) (pa_cons (pe_op op_add (pe_op op_add (pv 1) pe_int) (pv 6)) pa_nil))) (pe_op op_add (pv 3) pe_int)))
    (pss_cons (ps_if (PW.pt (pw_and (pt_cmpR (op_neP hr.units) (pv 5) (pe_lst pa_nil) (nomark _)) (pw_and (pt_cmpR op_eq (pe_op op_mod (pe_op op_fdiv (pv 4) pe_int) pe_int) pe_int (nomark _)) (pw_and1 (pt_cmpR op_eq (pe_op op_mod (pv 7) pe_int) pe_int (nomark _)))))) (pss_one (ps_set (i := 7) sc_law_die.nd rfl (Or.inl rfl) (pe_ix ix_list (pv 5) pe_int (fun _ _ => rfl)))) pss_nil)
    (pss_one (ps_expr (pe_bm PySem.F.plainAttrs_list PySem.F.slot_list_append PySem.F.type_list_append mt_append (pv 5) (pa_cons (pv 7) pa_nil)))))))
    (pss_one (ps_ret (pv 5)))))), ?_⟩
    refine ⟨_, rfl, _, rfl, a, ns, k, rfl, hS, hl, h0, by omega, fun H1 e1 => ?_⟩
    refine ⟨Nat.zero_le _, fun f nf => ?_⟩
    have nf0 := Same.free e1 nf
    have hr1 := Int.emod_nonneg (drawN ns k) (show most ≠ 0 by omega)
    have hr2 := Int.emod_lt_of_pos (drawN ns k) m0
    refine ⟨_, rfl, _, rfl, drawN ns k, most, rfl, rfl, m0, _, _, rfl, rfl, _, rfl, by omega, by omega, ?_⟩
    refine for_range (lo := 0) (n := (1 + drawN ns k % most).toNat)
      (fun i σ H' => ∃ y1 y2, σ = [some (.ref a), some (.int k), some (.int most), some (.int top), some (.int (drawN ns k)), some (.ref f), y1, y2] ∧ Same H H' ∧ H' f = some (.lst ((dieFold ns k top (drawN ns k) i).map V.int)))
      ⟨none, none, rfl, same_old e1 nf0, upd_same⟩ ?_ ?_
    · rintro i σ H2 hi ⟨y1, y2, rfl, e2, hf⟩
      refine ⟨_, rfl, _, rfl, k, 1, rfl, rfl, _, rfl, _, _, rfl, rfl, a, ns, k + 1 + (0 + (i : Int)), rfl, e2.seq hS, hl, by omega, by omega, fun H3 e3 => ?_⟩
      refine ⟨_, rfl, top, 1, rfl, rfl, _, _, rfl, rfl, by omega, ?_⟩
      have hz : (0 : Int) + (i : Int) = (i : Int) := by omega
      rw [hz]
      -- the end of a turn
      have e23 := e2.trans e3
      have turn : ∀ (z : Int) (H4 : Hp), z = faceN ns k top (drawN ns k) (dieFold ns k top (drawN ns k) i) i → Same H3 H4 → tDrop (tBM K "list" rAppend (tVar 5) (tCons (tVar 7) tNil))
          { nx := fun σ H' => ∃ y1 y2, σ = [some (.ref a), some (.int k), some (.int most), some (.int top), some (.int (drawN ns k)), some (.ref f), y1, y2] ∧ Same H H' ∧ H' f = some (.lst ((dieFold ns k top (drawN ns k) (i + 1)).map V.int)), rt := fun _ _ => False }
          [some (.ref a), some (.int k), some (.int most), some (.int top), some (.int (drawN ns k)), some (.ref f), some (.int (i : Int)), some (.int z)] H4 := by
        intro z H4 hz4 e4
        have hf4 := e4 _ _ (e3 _ _ hf)
        refine ⟨_, rfl, .inl ⟨rfl, _, sq_of hf4⟩, _, rfl, f, _, _, rfl, rfl, hf4, sz_lt (by rw [List.length_map, dieFold_len]; omega), _, _, rfl, same_old (e23.trans e4) nf0, ?_⟩
        rw [upd_same, dieFold, List.map_append, ← hz4]
        rfl
      have hfl3 := e3 _ _ hf
      refine ⟨_, rfl, Nat.zero_le _, fun p np => ?_⟩
      have e5 : Same H3 (upd H3 p (.lst [])) := same_new np
      refine ne_is (is_ints (sq_of (e5 _ _ hfl3))) (is_list (α := Int) (sq_of upd_same) .nil) ⟨_, rfl, iteND (fun hn => ?_) (fun hn => ?_)⟩
      · refine ⟨_, rfl, _, _, rfl, rfl, dv rfl, _, _, rfl, rfl, md rfl, rfl, _, rfl, iteD (fun c1 => ?_) (fun c1 => ?_)⟩
        · refine ⟨_, rfl, _, _, rfl, rfl, md rfl, rfl, _, rfl, ?_⟩
          by_cases c2 : drawN ns (k + 1 + (i : Int)) % (top + 1) % 3 = 0
          · have c2' : decide (V.int (drawN ns (k + 1 + (i : Int)) % (top + 1) % 3) = V.int 0) = true := decide_eq_true (congrArg V.int c2)
            rw [c2']
            refine iteT ⟨_, rfl, f, _, 0, .int ((dieFold ns k top (drawN ns k) i).getD 0 0), rfl, rfl, sq_of (e5 _ _ hfl3), ?_, ?_⟩
            · refine atI_nat (j := 0) ?_
              cases hfd : dieFold ns k top (drawN ns k) i with
              | nil => exact absurd hfd hn
              | cons x r => rfl
            · refine turn _ _ ?_ e5
              rw [faceN, if_pos ⟨hn, V.int.inj c1, c2⟩]
          · have c2' : decide (V.int (drawN ns (k + 1 + (i : Int)) % (top + 1) % 3) = V.int 0) = false := decide_eq_false fun z => c2 (V.int.inj z)
            rw [c2']
            refine iteF (turn _ _ ?_ e5)
            rw [faceN, if_neg fun c => c2 c.2.2]
        · refine iteF (turn _ _ ?_ e5)
          rw [faceN, if_neg fun c => c1 (congrArg V.int c.2.1)]
      · refine iteF (turn _ _ ?_ e5)
        rw [faceN, if_neg fun c => c.1 hn]
    · rintro σ H2 ⟨y1, y2, rfl, e2, hf⟩
      exact ⟨_, rfl, q H2 f e2 nf0 hf⟩
end
end My

namespace My
open PySem PySem.Spec PyProof.Rows L2
open PySem.W (Datum Tup)
section
variable {P : Program} {w : World} {K : PySem.W.Frag} {mg : Str → Option Value} {base : Heap}
theorem cut_from (l : List V) {k : Int} (h : 0 ≤ k) : cutV l (some k) none = l.drop k.toNat := by
  obtain ⟨n, rfl⟩ : ∃ n : Nat, k = (n : Int) := ⟨k.toNat, by omega⟩
  unfold cutV
  rw [HT.sIx_none, HT.sIx_nat _ _ n, Int.toNat_natCast]
  rcases Nat.le_total n l.length with h | h
  · rw [Nat.min_eq_left h]
    exact List.take_of_length_le (by rw [List.length_drop]; exact Nat.le_refl _)
  · rw [Nat.min_eq_right h, List.drop_length, List.drop_of_length_le h]
    exact List.take_nil
/-! ### counts that are handed in -/
/-- a thing that is asked where counts are due -/
structure CThing (H : Hp) (v : V) : Prop where
  kd : ∃ n, Kd H v n
  all : ∀ xs, lstOf H v = some xs → xs.length ≤ 100000 ∧ ∀ x ∈ xs, RThing H x
def fstV (H : Hp) (v : V) : Int := match tupOf H v with
  | some [.int s, _] => s
  | _ => 0
def sndV (H : Hp) (v : V) : Int := match tupOf H v with
  | some [_, .int n] => n
  | _ => 0
def riseB : List Int → Bool
  | x :: y :: r => decide (x < y) && riseB (y :: r)
  | _ => true
def countsB (H : Hp) (n : Int) (xs : List V) : Bool := xs.all (rowV H) && riseB (xs.map (fstV H)) && decide ((xs.map (sndV H)).sum = n)
def countsV (H : Hp) (n : Int) (v : V) : Bool := match lstOf H v with
  | some xs => countsB H n xs
  | none => false
theorem rowV_some {H : Hp} {v : V} (h : rowV H v = true) : ∃ a s n, v = .ref a ∧ H a = some (.tup [.int s, .int n]) ∧ fstV H v = s ∧ sndV H v = n ∧ 0 ≤ s ∧ s ≤ 198 ∧ 1 ≤ n := by
  unfold rowV at h
  cases ht : tupOf H v with
  | none => rw [ht] at h; cases h
  | some xs =>
    rw [ht] at h
    obtain ⟨a, rfl, ha⟩ := tupOf_some ht
    have h : rowB xs = true := h
    have two : ∃ x y, xs = [x, y] := by
      match xs, h with
      | [x, y], _ => exact ⟨x, y, rfl⟩
      | [], h => cases h
      | [_], h => cases h
      | _ :: _ :: _ :: _, h => cases h
    obtain ⟨x, y, rfl⟩ := two
    have both : ∃ s n, x = .int s ∧ y = .int n := by
      have h : pairB x y = true := h
      cases x with
      | int s =>
        cases y with
        | int n => exact ⟨s, n, rfl, rfl⟩
        | _ => cases h
      | _ => cases h
    obtain ⟨s, n, rfl, rfl⟩ := both
    · have h : (decide (0 ≤ s) && decide (s ≤ 198) && decide (1 ≤ n)) = true := h
      rw [Bool.and_eq_true, Bool.and_eq_true, decide_eq_true_eq, decide_eq_true_eq, decide_eq_true_eq] at h
      refine ⟨a, s, n, rfl, ha, ?_, ?_, h.1.1, h.1.2, h.2⟩
      · unfold fstV
        rw [ht]
      · unfold sndV
        rw [ht]
theorem tupOf_same {H H' : Hp} (e : Same H H') {v : V} {n : String} (k : Kd H v n) : tupOf H' v = tupOf H v := by
  cases k with
  | lst h => rw [show tupOf H' (.ref _) = none from by show (match H' _ with | some (.tup xs) => some xs | _ => none) = none; rw [e _ _ h], show tupOf H (.ref _) = none from by show (match H _ with | some (.tup xs) => some xs | _ => none) = none; rw [h]]
  | tup h => rw [tupOf_ref h, tupOf_ref (e _ _ h)]
  | dct h => rw [show tupOf H' (.ref _) = none from by show (match H' _ with | some (.tup xs) => some xs | _ => none) = none; rw [e _ _ h], show tupOf H (.ref _) = none from by show (match H _ with | some (.tup xs) => some xs | _ => none) = none; rw [h]]
  | _ => rfl
theorem RThing.mono {H H' : Hp} (e : Same H H') {v : V} (t : RThing H v) : RThing H' v where
  kd := let ⟨n, k⟩ := t.kd; ⟨n, k.mono e⟩
  all := fun xs hx x h => by
    obtain ⟨n, k⟩ := t.kd
    rw [tupOf_same e k] at hx
    obtain ⟨m, km⟩ := t.all xs hx x h
    exact ⟨m, km.mono e⟩
theorem rowV_same {H H' : Hp} (e : Same H H') {v : V} (t : RThing H v) : rowV H' v = rowV H v := by
  obtain ⟨n, k⟩ := t.kd
  unfold rowV
  rw [tupOf_same e k]
theorem rise_pairs : ∀ l : List Int, riseB l = (l.zip (l.drop 1)).all fun p => decide (p.1 < p.2)
  | [] => rfl
  | [x] => rfl
  | x :: y :: r => by
    show (decide (x < y) && riseB (y :: r)) = ((x :: y :: r).zip (y :: r)).all fun p => decide (p.1 < p.2)
    rw [rise_pairs (y :: r)]
    rfl
theorem rise_of : ∀ {l : List Int}, riseB l = true → l.Pairwise (· < ·)
  | [], _ => .nil
  | [x], _ => List.pairwise_singleton _ _
  | x :: y :: r, h => by
    have h : (decide (x < y) && riseB (y :: r)) = true := h
    rw [Bool.and_eq_true, decide_eq_true_eq] at h
    have ih := rise_of h.2
    refine List.pairwise_cons.mpr ⟨fun z hz => ?_, ih⟩
    rcases List.mem_cons.mp hz with c | c
    · rw [c]
      exact h.1
    · have := (List.pairwise_cons.mp ih).1 z c
      omega
def lessV : V → V → V
  | .int i, .int j => .bl (decide (i < j))
  | _, _ => .bl false
theorem throws_fit : ∀ k : Fin 37, ((k.val : Nat) : Int).natAbs.log2 < 1920 ∧ (Str.empty ++ Str.ofString "the counts come to " ++ Str.ofString (toString ((k.val : Nat) : Int))).length ≤ sizeLine ∧
    (Str.empty ++ Str.ofString "the counts come to " ++ Str.ofString (toString ((k.val : Nat) : Int)) ++ Str.ofString " throws in all").length ≤ sizeLine := by decide +kernel
def spNeedCounts (C : Addr) : Sp := fun vs H Q E => ∃ (v : V) (n : Int), vs = [v, .int n] ∧ 1 ≤ n ∧ n ≤ 36 ∧ CThing H v ∧ (countsV H n v = true → ∀ H', Same H H' → Q .non H') ∧ (countsV H n v = false → ∀ H', Same H H' → E (.ref C) none H')
theorem ok_need_counts (T : Lay K mg) : FnOk P w K mg base (L2.CX P w) 3 T.a_need_counts T.d_need_counts ["thing", "throws"] (spNeedCounts T.a_BadCounts) := by
  refine T.f_need_counts.okX sc_need_counts (fun vs H Q E h => ?_) (fun cdv A outer s H vs Q E hr h => ?_)
  · obtain ⟨v, m, rfl, _⟩ := h
    rfl
  · obtain ⟨v, m, rfl, m1, m2, th, q1, q2⟩ := h
    refine ⟨_, (pss_cons (ps_if (PW.pt (pw_or (pt_not (pt_val (pe_callB call_isi (by rfl) T.n_isinstance (by decide +kernel) (pa_cons (pv 0) (pa_cons (pe_bltn (v := .ty "list") (by rfl) T.n_list (by decide +kernel) rfl) pa_nil))))) (pw_or1 (pt_not (pt_val (pe_callB (cr_all rfl) (by rfl) T.n_all (by decide +kernel) (pa_cons (pe_lc (own := [("row", 3)]) (g := (gName 3)) rfl sc_need_counts.nd (pi_list (pv 0)) (blkOk_by (N := nm_need_counts) (sc := defScope st_need_counts) (by decide +kernel)) (fun _ _ _ _ _ => (pg_name (i := 3) sc_need_counts.nd rfl (Or.inl rfl))) (fun _ _ _ _ _ => pts_nil) (fun _ _ _ _ _ => (pe_call (ok_is_row T) (hr.mono (by decide)) (by rfl) T.g_is_row T.f_is_row.kp T.b_is_row .nil pass0 (pa_cons (pv 3) pa_nil)))) pa_nil))))))) (pss_one (ps_raise rfl (takes_of rfl rfl rfl rfl) (SkE.pmk_own1 PySem.F.excBase_ValueError T.x_BadCounts.x T.g_BadCounts T.x_BadCounts.k (raises_own T.x_BadCounts.b T.x_BadCounts.t) rfl (pe_joined (PJ.cons pe_str (PJ.cons (pe_fmt (pe_glob (v := .int 198) rfl T.c_GREATEST_SUM ⟨_, rfl⟩)) (PJ.cons pe_str PJ.nil))))))) pss_nil)
    (pss_cons (ps_setLc (i := 2) (y := "totals") (hy := rfl) (hyl := rfl) (hsw := sw_true rfl rfl rfl (by decide +kernel)) (own := [("row", 3)]) (g := (gName 3)) (hc := rfl) (hN := sc_need_counts.nd) (hi := (pi_list (pv 0))) (ok := (blkOk_by (N := nm_need_counts) (sc := defScope st_need_counts) (by decide +kernel))) (hg := (fun _ _ _ _ _ => (pg_name (i := 3) sc_need_counts.nd rfl (Or.inl rfl)))) (ht := (fun _ _ _ _ _ => pts_nil)) (he := (fun _ _ _ _ _ => (pe_ix (r := rIxT K) ix_tup (pv 3) pe_int (fun _ _ => rfl)))))
    (pss_cons (ps_if (pt_not (pt_val (pe_callB (cr_all rfl) (by rfl) T.n_all (by decide +kernel) (pa_cons (pe_lc (own := [("low", 4), ("high", 5)]) (g := (gTup K 2 (gCons (gName 4) (gCons (gName 5) gNil)))) rfl sc_need_counts.nd (pi_zip (by rfl) T.n_zip (pa_cons (pv 2) (pa_cons (pe_slice sl_list (pv 2) (po_some pe_int) po_none) pa_nil))) (blkOk_by (N := nm_need_counts) (sc := defScope st_need_counts) (by decide +kernel)) (fun _ _ _ _ _ => (pg_tup rfl (pgs_cons (pg_name (i := 4) sc_need_counts.nd rfl (Or.inl rfl)) (pgs_cons (pg_name (i := 5) sc_need_counts.nd rfl (Or.inl rfl)) pgs_nil)))) (fun _ _ _ _ _ => pts_nil) (fun _ _ _ _ _ => (pe_cmpR op_lt (pv 4) (pv 5) (nomark _)))) pa_nil)))) (pss_one (ps_raise rfl (takes_of rfl rfl rfl rfl) (pmk_own PySem.F.excBase_ValueError T.x_BadCounts.x T.g_BadCounts T.x_BadCounts.k (raises_own T.x_BadCounts.b T.x_BadCounts.t) rfl))) pss_nil)
    (pss_one (ps_if (pt_cmpR op_ne (pe_callB (cr_sum rfl) (by rfl) T.n_sum (by decide +kernel) (pa_cons (pe_lc (own := [("row", 3)]) (g := (gName 3)) rfl sc_need_counts.nd (pi_list (pv 0)) (blkOk_by (N := nm_need_counts) (sc := defScope st_need_counts) (by decide +kernel)) (fun _ _ _ _ _ => (pg_name (i := 3) sc_need_counts.nd rfl (Or.inl rfl))) (fun _ _ _ _ _ => pts_nil) (fun _ _ _ _ _ => (pe_ix (r := rIxT K) ix_tup (pv 3) pe_int (fun _ _ => rfl)))) pa_nil)) (pv 1) (nomark _)) (pss_one (ps_raise rfl (takes_of rfl rfl rfl rfl) (SkE.pmk_own1 PySem.F.excBase_ValueError T.x_BadCounts.x T.g_BadCounts T.x_BadCounts.k (raises_own T.x_BadCounts.b T.x_BadCounts.t) rfl (pe_joined (PJ.cons pe_str (PJ.cons (pe_fmt (pv 1)) (PJ.cons pe_str PJ.nil))))))) pss_nil))))), ?_⟩
    obtain ⟨n, hk⟩ := th.kd
    cases hl : lstOf H v with
    | none =>
      have e : countsV H m v = false := by unfold countsV; rw [hl]
      refine ⟨v, rfl, v, _, _, _, _, rfl, .ty _, hk.ty, kit_ty (hk.kListN hl), _, rfl, iteT (iteT ?_)⟩
      exact ⟨_, rfl, by decide +kernel, .inr ⟨198, rfl, by decide +kernel, _, rfl, by decide +kernel, _, rfl, by decide +kernel, q2 e H (Same.refl H)⟩⟩
    | some xs =>
      have ed : countsV H m v = countsB H m xs := by unfold countsV; rw [hl]
      obtain ⟨a, rfl, ha⟩ := lstOf_some hl
      obtain ⟨hlen, hall⟩ := th.all xs hl
      refine ⟨.ref a, rfl, .ref a, _, _, _, _, rfl, .ty _, hk.ty, kit_ty (hk.kListS hl), _, rfl, iteF ?_⟩
      -- not all([is_row(row) for row in thing])
      refine ⟨.ref a, rfl, a, rfl, ⟨xs, sq_of ha⟩, fun D nD => ?_⟩
      refine lc_all (K := K) (fun x => .bl (rowV H x)) nD (sq_of ha) (by omega) (fun x H' R hx e r N => ?_) (fun H1 e1 hD => ?_)
      · have tx := hall x hx
        refine ⟨rfl, iteT (B := N H') ⟨x, rfl, x, rfl, tx.mono e, fun H4 e4 => ?_⟩⟩
        rw [rowV_same e tx]
        exact r H4 e4
      · refine ⟨D, xs.map (rowV H), rfl, ?_, ?_⟩
        · rw [List.map_map]
          exact sq_of hD
        · rw [all_map]
          refine ⟨_, rfl, ?_⟩
          cases hx : xs.all (rowV H) with
          | false =>
            refine iteT ?_
            refine ⟨_, rfl, by decide +kernel, .inr ⟨198, rfl, by decide +kernel, _, rfl, by decide +kernel, _, rfl, by decide +kernel, q2 ?_ H1 e1⟩⟩
            rw [ed]
            unfold countsB
            rw [hx, Bool.false_and, Bool.false_and]
          | true =>
            refine iteF ?_
            have hr := fun x hx' => rowV_some (List.all_eq_true.mp hx x hx')
            -- totals = [row[0] for row in thing]
            refine ⟨_, rfl, a, rfl, ⟨xs, sq_of (e1 _ _ ha)⟩, fun D2 nD2 => ?_⟩
            refine lc_all (K := K) (fun x => .int (fstV H x)) nD2 (sq_of (e1 _ _ ha)) (by omega) (fun x H' R hx e r N => ?_) (fun H2 e2 hD2 => ?_)
            · obtain ⟨b, s, k, rfl, hb, hf, hs, _⟩ := hr x hx
              rw [hf] at r
              exact ⟨rfl, iteT (B := N H') ⟨_, rfl, b, _, 0, .int s, rfl, rfl, st_of (e _ _ (e1 _ _ hb)), atI_nat (j := 0) rfl, r H' (Same.refl H')⟩⟩
            · have e02 := e1.trans e2
              have et : (xs.map fun x => V.int (fstV H x)) = (xs.map (fstV H)).map V.int := by
                rw [List.map_map]
                rfl
              rw [et] at hD2
              have ecut : cutV ((xs.map (fstV H)).map V.int) (some 1) none = ((xs.map (fstV H)).drop 1).map V.int := by
                rw [cut_from _ (by decide), List.map_drop]
                rfl
              have ecount : countsB H m xs = (riseB (xs.map (fstV H)) && decide ((xs.map (sndV H)).sum = m)) := by
                unfold countsB
                rw [hx, Bool.true_and]
              have ltot : (xs.map (fstV H)).length = xs.length := List.length_map _
              generalize xs.map (fstV H) = tot at hD2 ecut ecount ltot et
              -- all([low < high for low, high in zip(totals, totals[1:])])
              refine ⟨_, rfl, _, rfl, _, rfl, D2, _, rfl, sq_of hD2, fun D3 nD3 => ?_⟩
              rw [ecut]
              have e3 := same_new (o := .lst ((tot.drop 1).map V.int)) nD3
              have hD23 := e3 _ _ hD2
              have hD3 := upd_same (H := H2) (a := D3) (o := .lst ((tot.drop 1).map V.int))
              generalize upd H2 D3 (.lst ((tot.drop 1).map V.int)) = H3 at *
              refine ⟨D2, D3, _, _, rfl, sq_of hD23, sq_of hD3, fun D4 nD4 => ?_⟩
              refine lz_all (K := K) lessV nD4 hD23 hD3 (by rw [List.length_map]; omega) (fun x y T1 H' R hz e hT r N => ?_) (fun H4 e4 hD4 => ?_)
              · obtain ⟨i, _, rfl⟩ := List.mem_map.mp (List.of_mem_zip hz).1
                obtain ⟨j, _, rfl⟩ := List.mem_map.mp (List.of_mem_zip hz).2
                exact ⟨_, _, rfl, st_of hT, rfl, _, _, rfl, _, _, rfl, rfl, rfl, iteT (B := N H') ⟨_, rfl, _, rfl, i, j, rfl, rfl, r H' (Same.refl H')⟩⟩
              · have ez : ((tot.map V.int).zip ((tot.drop 1).map V.int)).map (fun p => lessV p.1 p.2) = ((tot.zip (tot.drop 1)).map fun p => decide (p.1 < p.2)).map V.bl := by
                  rw [List.zip_map, List.map_map, List.map_map]
                  rfl
                rw [ez] at hD4
                refine ⟨D4, _, rfl, sq_of hD4, ?_⟩
                have erise : (((tot.zip (tot.drop 1)).map fun p => decide (p.1 < p.2)).all id) = riseB tot := by
                  rw [rise_pairs, List.all_map]
                  rfl
                rw [erise]
                have e04 := (e02.trans e3).trans e4
                refine ⟨_, rfl, ?_⟩
                cases hrise : riseB tot with
                | false =>
                  refine iteT (q2 ?_ H4 e04)
                  rw [ed, ecount, hrise, Bool.false_and]
                | true =>
                  refine iteF ?_
                  -- sum([row[1] for row in thing]) != throws
                  refine ⟨_, rfl, a, rfl, ⟨xs, sq_of (e04 _ _ ha)⟩, fun D5 nD5 => ?_⟩
                  refine lc_all (K := K) (fun x => .int (sndV H x)) nD5 (sq_of (e04 _ _ ha)) (by omega) (fun x H' R hx e r N => ?_) (fun H5 e5 hD5 => ?_)
                  · obtain ⟨b, s, k, rfl, hb, hf, hs, _⟩ := hr x hx
                    rw [hs] at r
                    exact ⟨rfl, iteT (B := N H') ⟨_, rfl, b, _, 1, .int k, rfl, rfl, st_of (e _ _ (e04 _ _ hb)), atI_nat (j := 1) rfl, r H' (Same.refl H')⟩⟩
                  · have et2 : (xs.map fun x => V.int (sndV H x)) = (xs.map (sndV H)).map V.int := by
                      rw [List.map_map]
                      rfl
                    rw [et2] at hD5
                    refine ⟨D5, _, rfl, sq_of hD5, _, rfl, rfl, _, rfl, ?_⟩
                    rw [dec_int]
                    have e05 := e04.trans e5
                    by_cases hs : (xs.map (sndV H)).sum = m
                    · rw [show ((xs.map (sndV H)).sum == m) = true from beq_iff_eq.mpr hs]
                      refine iteF (q1 ?_ H5 e05)
                      rw [ed, ecount, hrise, decide_eq_true hs]
                      rfl
                    · rw [show ((xs.map (sndV H)).sum == m) = false from beq_eq_false_iff_ne.mpr hs]
                      refine iteT ?_
                      have fit := throws_fit ⟨m.toNat, by omega⟩
                      have em : ((m.toNat : Nat) : Int) = m := by omega
                      rw [em] at fit
                      refine ⟨_, rfl, by decide +kernel, _, rfl, .inr ⟨m, rfl, fit.1, _, rfl, fit.2.1, _, rfl, fit.2.2, q2 ?_ H5 e05⟩⟩
                      · rw [ed, ecount, hrise, decide_eq_false hs]
                        rfl
/-! ### a die more -/
def spWays : Sp := fun vs H Q _ => ∃ (d p : Addr) (m : List (Int × Int)) (ds : List Int), vs = [.ref d, .ref p] ∧ H d = some (.dK (m.map entI)) ∧ H p = some (.lst (ds.map V.int)) ∧ m.length * ds.length ≤ 100000 ∧
  ∀ H' q, Same H H' → H q = none → H' q = some (.dK ((withW m ds).map entI)) → Q (.ref q) H'
theorem part_len (m : List (Int × Int)) (ds : List Int) (i j : Nat) (p : Int × Int) (h : m[i]? = some p) (hj : j < ds.length) : (inner p.1 p.2 (withW (m.take i) ds) (ds.take j)).length < m.length * ds.length := by
  have h1 := inner_len p.1 p.2 (ds.take j) (withW (m.take i) ds)
  have h2 := withW_len (m.take i) ds
  have h3 : i < m.length := (List.getElem?_eq_some_iff.mp h).1
  rw [List.length_take, Nat.min_eq_left (Nat.le_of_lt h3)] at h2
  rw [List.length_take, Nat.min_eq_left (Nat.le_of_lt hj)] at h1
  have h4 : (i + 1) * ds.length ≤ m.length * ds.length := Nat.mul_le_mul_right _ h3
  rw [Nat.succ_mul] at h4
  omega
theorem ok_ways_with (T : Lay K mg) : FnOk P w K mg base CX0 1 T.a_ways_with T.d_ways_with ["ways", "die"] spWays := by
  refine T.f_ways_with.ok sc_ways_with (fun vs H Q E h => ?_) (fun cdv A outer s H vs Q E hr h => ?_)
  · obtain ⟨d, p, m, ds, rfl, _⟩ := h
    rfl
  · obtain ⟨d, p, m, ds, rfl, hd, hp, hz, q⟩ := h
    refine ⟨_, (pss_cons (ps_set (i := 2) sc_ways_with.nd rfl (Or.inl rfl) pe_dnewK)
    (pss_cons (ps_lock (ps_for PassesOwn.never rfl (pi_items (pv 0)) (pg_tup rfl (pgs_cons (pg_name (i := 3) sc_ways_with.nd rfl (Or.inl rfl)) (pgs_cons (pg_name (i := 4) sc_ways_with.nd rfl (Or.inl rfl)) pgs_nil))) (pss_one (ps_for PassesOwn.never rfl (pi_list (pv 1)) (pg_name (i := 5) sc_ways_with.nd rfl (Or.inl rfl)) (pss_one (ps_dput (hu_of hr) (pv 2) (pe_op op_add (pv 3) (pv 5)) (pe_op op_add (pe_dget2 (hu_of hr) (pv 2) (pe_op op_add (pv 3) (pv 5)) pe_int ⟨by rfl, by rfl, by rfl, by rfl⟩) (pv 4)) rfl))))))
    (pss_one (ps_ret (pv 2))))), ?_⟩
    refine fun r nr => ?_
    have s1 : Same H (upd H r (.dK [])) := same_new nr
    have hd1 := s1 _ _ hd
    have hp1 := s1 _ _ hp
    have hr1 : (upd H r (.dK [])) r = some (.dK []) := upd_same
    have nrd : r ≠ d := fun z => by rw [z, hd] at nr; cases nr
    have nrp : r ≠ p := fun z => by rw [z, hp] at nr; cases nr
    have npd : p ≠ d := ne_of hp hd fun z => nomatch z
    generalize upd H r (.dK []) = H1 at *
    refine ⟨d, _, hd1, trivial, fun od => ?_⟩
    refine ⟨_, rfl, d, od, _, rfl, upd_same, ?_⟩
    -- what stands beside r
    let Keep : Hp → Prop := fun H' => ∀ b o, b ≠ r → (upd H1 d (.frz od (.dK (m.map entI)))) b = some o → H' b = some o
    have kd : ∀ {H'}, Keep H' → H' d = some (.frz od (.dK (m.map entI))) := fun k => k d _ nrd.symm upd_same
    have kp : ∀ {H'}, Keep H' → H' p = some (.lst (ds.map V.int)) := fun k => k p _ nrp.symm (by rw [upd_ne npd]; exact hp1)
    refine for_items (fun i σ H' => (∃ y1 y2 y3, σ = [some (.ref d), some (.ref p), some (.ref r), y1, y2, y3]) ∧ Keep H' ∧ H' r = some (.dK ((withW (m.take i) ds).map entI)))
      ⟨⟨none, none, none, rfl⟩, fun b o _ e => e, by rw [upd_ne nrd]; exact hr1⟩ (fun i σ H' ⟨_, k, _⟩ => kd k) ?_ ?_
    · rintro i k v σ H2 t hi ⟨⟨y1, y2, y3, rfl⟩, k2, hr2⟩ nt
      rw [List.getElem?_map] at hi
      cases hmi : m[i]? with
      | none => rw [hmi] at hi; cases hi
      | some pr =>
        rw [hmi] at hi
        cases hi
        have ntr : r ≠ t := ne_of_none hr2 nt
        have k3 : Keep (upd H2 t (.tup [kV (Sum.inl pr.1), .int pr.2])) := fun b o hb e => by
          have z := k2 b o hb e
          rw [upd_ne (ne_of_none z nt)]
          exact z
        have hr3 : (upd H2 t (.tup [kV (Sum.inl pr.1), .int pr.2])) r = some (.dK ((withW (m.take i) ds).map entI)) := by
          rw [upd_ne ntr]
          exact hr2
        refine ⟨t, _, rfl, st_of upd_same, rfl, _, _, rfl, _, _, rfl, rfl, ?_⟩
        generalize upd H2 t (.tup [kV (Sum.inl pr.1), .int pr.2]) = H3 at *
        -- for face in die
        refine ⟨_, rfl, p, rfl, ⟨_, sq_of (kp k3)⟩, for_list (K := K) (a := p) (xs := ds.map V.int)
          (fun j σ H' => (∃ y1, σ = [some (.ref d), some (.ref p), some (.ref r), some (.int pr.1), some (.int pr.2), y1]) ∧ Keep H' ∧ H' r = some (.dK ((inner pr.1 pr.2 (withW (m.take i) ds) (ds.take j)).map entI)))
          ⟨⟨_, rfl⟩, k3, hr3⟩ (fun j σ H' _ ⟨_, k, _⟩ => sq_of (kp k)) ?_ ?_⟩
        · rintro j y σ H4 hj ⟨⟨y1, rfl⟩, k4, hr4⟩
          rw [List.getElem?_map] at hj
          cases hdj : ds[j]? with
          | none => rw [hdj] at hj; cases hj
          | some f =>
            rw [hdj] at hj
            cases hj
            have hlt : j < ds.length := (List.getElem?_eq_some_iff.mp hdj).1
            refine ⟨_, rfl, r, rfl, .inl ⟨_, .inl hr4⟩, _, rfl, _, rfl, pr.1, f, rfl, rfl, _, DGet.k (k := Sum.inl (pr.1 + f)) hr4, _, rfl, lookI (inner pr.1 pr.2 (withW (m.take i) ds) (ds.take j)) (pr.1 + f), pr.2, valV_entI _ _, rfl, ?_⟩
            refine ⟨_, rfl, _, rfl, _, rfl, pr.1, f, rfl, rfl, r, _, rfl, DPut.k (k := Sum.inl (pr.1 + f)) hr4 (sz_lt ?_), ?_⟩
            · rw [List.length_map]
              have := part_len m ds i j pr hmi hlt
              omega
            · refine ⟨⟨_, rfl⟩, fun b o hb e => ?_, ?_⟩
              · rw [upd_ne hb]
                exact k4 b o hb e
              · rw [upd_same, putK_entI, take_snoc hdj, inner_snoc]
                rfl
        · rintro σ H4 ⟨⟨y1, rfl⟩, k4, hr4⟩
          rw [List.length_map, List.take_length] at hr4
          refine ⟨⟨_, _, _, rfl⟩, k4, ?_⟩
          rw [hr4, take_snoc hmi, withW_snoc]
    · rintro σ H2 ⟨⟨y1, y2, y3, rfl⟩, k2, hr2⟩
      rw [List.length_map, List.take_length] at hr2
      refine ⟨kd k2, _, rfl, q _ r ?_ nr ?_⟩
      · intro b o e
        have hb : b ≠ r := fun z => by rw [z, nr] at e; cases e
        by_cases hbd : b = d
        · subst hbd
          rw [hd] at e
          cases e
          exact upd_same
        · rw [upd_ne hbd]
          refine k2 b o hb ?_
          rw [upd_ne hbd]
          exact s1 b o e
      · rw [upd_ne nrd]
        exact hr2
/-! ### counts -/
/-! ### good dice -/
def good (ds : List Int) : Prop := 1 ≤ ds.length ∧ ds.length ≤ 8 ∧ ∀ f ∈ ds, 0 ≤ f ∧ f ≤ 99
theorem die_good {ds : List Int} (h : good ds) : dieB (ds.map V.int) = true := by
  have h3 : (ds.map V.int).all faceB = true := List.all_eq_true.mpr fun x hx => by
    obtain ⟨i, hi, rfl⟩ := List.mem_map.mp hx
    simp [faceB, h.2.2 i hi]
  simp [dieB, h.1, h.2.1, h3]
theorem kd_int_list {H : Hp} {ns : List Int} : ∀ x ∈ ns.map V.int, ∃ m, Kd H x m := fun x hx => by
  obtain ⟨i, _, rfl⟩ := List.mem_map.mp hx
  exact ⟨_, .int i⟩
theorem thing_die {H : Hp} {p : Addr} {ds : List Int} (h : H p = some (.lst (ds.map V.int))) : Thing H (.ref p) where
  kd := ⟨_, .lst h⟩
  all := fun xs e => by
    rw [lstOf_ref h] at e
    cases e
    exact kd_int_list
theorem dieV_die {H : Hp} {p : Addr} {ds : List Int} (h : H p = some (.lst (ds.map V.int))) : dieV H (.ref p) = dieB (ds.map V.int) := by
  unfold dieV
  rw [lstOf_ref h]
theorem paired_mem {α β : Type} {F : α → β → Prop} {xs : List α} {ys : List β} (h : Paired F xs ys) {x : α} (hx : x ∈ xs) : ∃ y ∈ ys, F x y := by
  obtain ⟨i, hi⟩ := List.mem_iff_getElem?.mp hx
  obtain ⟨y, hy, r⟩ := paired_at h hi
  exact ⟨y, List.mem_of_getElem? hy, r⟩
theorem dthing_dice {H : Hp} {a : Addr} {ps : List Addr} {dss : List (List Int)} (h : DiceAt H a ps dss) : DThing H (.ref a) where
  kd := ⟨_, .lst h.1⟩
  all := fun xs e x hx => by
    rw [lstOf_ref h.1] at e
    cases e
    obtain ⟨p, hp, rfl⟩ := List.mem_map.mp hx
    obtain ⟨ds, _, r⟩ := paired_mem h.2 hp
    exact thing_die r
theorem diceV_dice {H : Hp} {a : Addr} {ps : List Addr} {dss : List (List Int)} {m : Nat} (h : DiceAt H a ps dss) (h1 : 1 ≤ dss.length) (h2 : dss.length ≤ m) (hg : ∀ ds ∈ dss, good ds) : diceV H m (.ref a) = true := by
  have hl : ps.length = dss.length := paired_len h.2
  unfold diceV
  rw [lstOf_ref h.1]
  show diceB H m (ps.map V.ref) = true
  unfold diceB
  rw [List.length_map, decide_eq_true (by omega), decide_eq_true (by omega), Bool.true_and, Bool.true_and]
  refine List.all_eq_true.mpr fun x hx => ?_
  obtain ⟨p, hp, rfl⟩ := List.mem_map.mp hx
  obtain ⟨ds, hd, r⟩ := paired_mem h.2 hp
  rw [dieV_die r]
  exact die_good (hg ds hd)
theorem ways_len : ∀ (dss : List (List Int)), (∀ ds ∈ dss, ds.length ≤ 8) → ∀ w : List (Int × Int), (dss.foldl withW w).length ≤ w.length * 8 ^ dss.length
  | [], _, w => by simp
  | ds :: r, h, w => by
    have h1 := ways_len r (fun x hx => h x (List.mem_cons_of_mem _ hx)) (withW w ds)
    have h2 := withW_len w ds
    have h3 : w.length * ds.length ≤ w.length * 8 := Nat.mul_le_mul_left _ (h ds List.mem_cons_self)
    have h4 : (withW w ds).length * 8 ^ r.length ≤ (w.length * 8) * 8 ^ r.length := Nat.mul_le_mul_right _ (by omega)
    show (r.foldl withW (withW w ds)).length ≤ w.length * 8 ^ (r.length + 1)
    rw [Nat.pow_succ, Nat.mul_comm (8 ^ r.length) 8, ← Nat.mul_assoc]
    omega
theorem ways_le {dss : List (List Int)} (h : ∀ ds ∈ dss, ds.length ≤ 8) {i : Nat} (hi : i ≤ 3) : (waysL (dss.take i)).length ≤ 512 := by
  have h1 := ways_len (dss.take i) (fun x hx => h x (List.mem_of_mem_take hx)) [(0, 1)]
  have h2 : (8 : Nat) ^ (dss.take i).length ≤ 8 ^ 3 := Nat.pow_le_pow_right (by decide) (by rw [List.length_take]; omega)
  have h3 : (8 : Nat) ^ 3 = 512 := by decide
  have h4 : ([(0, 1)] : List (Int × Int)).length = 1 := rfl
  rw [h4] at h1
  unfold waysL
  omega
theorem ways_top {dss : List (List Int)} (h : ∀ ds ∈ dss, ds.length ≤ 8) (l : dss.length ≤ 4) : (waysL dss).length ≤ 4096 := by
  have h1 := ways_len dss h [(0, 1)]
  have h2 : (8 : Nat) ^ dss.length ≤ 8 ^ 4 := Nat.pow_le_pow_right (by decide) l
  have h3 : (8 : Nat) ^ 4 = 4096 := by decide
  have h4 : ([(0, 1)] : List (Int × Int)).length = 1 := rfl
  rw [h4] at h1
  unfold waysL
  omega
def spCounts (C : Addr) : Sp := fun vs H Q E => ∃ v, vs = [v] ∧ DThing H v ∧
  (∀ a ps dss, v = .ref a → DiceAt H a ps dss → 1 ≤ dss.length → dss.length ≤ 4 → (∀ ds ∈ dss, good ds) →
    ∀ H' p rows, Same H H' → H p = none → (∀ z ∈ rows, H z.1 = none) → p ∉ rows.map (·.1) → IsCounts (cntF dss) (rows.map (·.2)) → RowsAt H' p rows → rows.length ≤ 4096 → Q (.ref p) H') ∧
  (diceV H 4 v = true → ∃ a ps dss, v = .ref a ∧ DiceAt H a ps dss ∧ 1 ≤ dss.length ∧ dss.length ≤ 4 ∧ ∀ ds ∈ dss, good ds) ∧
  (diceV H 4 v = false → ∀ H', Same H H' → E (.ref C) none H')
theorem ok_counts (T : Lay K mg) : FnOk P w K mg base (L2.CX P w) 5 T.a_counts T.d_counts ["dice"] (spCounts T.a_BadDice) := by
  refine T.f_counts.okX sc_counts (fun vs H Q E h => ?_) (fun cdv A outer s H vs Q E hr h => ?_)
  · obtain ⟨v, rfl, _⟩ := h
    rfl
  · obtain ⟨v, rfl, th, q1, q0, q2⟩ := h
    have tk : Takes (cxOf (L2.CX P w) P w K mg base nm_counts "counts" (defScope st_counts) T.a_counts cdv A outer s H E) (fun cls d _ H => E cls d H) := takes_of rfl rfl rfl rfl
    refine ⟨_, (pss_cons (ps_expr (pe_call (ok_need_dice T) (hr.mono (by decide)) (by rfl) T.g_need_dice T.f_need_dice.kp T.b_need_dice .nil (passes_call tk fun _ _ _ _ h => h) (pa_cons (pv 0) (pa_cons (pe_glob (v := .int 4) rfl T.c_MOST_DICE ⟨_, rfl⟩) pa_nil))))
    (pss_cons (ps_set (i := 1) sc_counts.nd rfl (Or.inl rfl) (pe_disp (pps_cons pe_int pe_int pps_nil) (by rfl) (by rfl) (fun z => by cases z) (by decide)))
    (pss_cons (ps_for (passes_of rfl) rfl (pi_list (pv 0)) (pg_name (i := 2) sc_counts.nd rfl (Or.inl rfl)) (pss_one (ps_set (i := 1) sc_counts.nd rfl (Or.inl rfl) (pe_call (ok_ways_with T) (hr.mono (by decide)) (by rfl) T.g_ways_with T.f_ways_with.kp T.b_ways_with .nil pass0 (pa_cons (pv 1) (pa_cons (pv 2) pa_nil))))))
    (pss_one (ps_ret (pe_sortedItems rfl (pv 1) (by rfl) T.n_sorted (by decide +kernel))))))), ?_⟩
    refine ⟨_, rfl, v, 4, rfl, .inl rfl, th, fun hd H1 e1 => ?_, fun hd H1 e1 => q2 hd H1 e1⟩
    obtain ⟨a, ps, dss, rfl, hD, l1, l2, hg⟩ := q0 hd
    have hD1 := hD.mono e1
    have g8 : ∀ ds ∈ dss, ds.length ≤ 8 := fun ds h => (hg ds h).2.1
    -- ways = {0: 1}
    refine fun r nr => ⟨upd_same, [(Sum.inl 0, .int 1)], rfl, by decide, ?_⟩
    have e2 : Same H1 (upd (upd H1 r (.dK [])) r (.dK (mergeK [] [(Sum.inl 0, .int 1)]))) := same_old (same_new nr) nr
    have hr2 : (upd (upd H1 r (.dK [])) r (.dK (mergeK [] [(Sum.inl 0, .int 1)]))) r = some (.dK ((waysL []).map entI)) := upd_same
    generalize upd (upd H1 r (.dK [])) r (.dK (mergeK [] [(Sum.inl 0, .int 1)])) = H2 at *
    have hD2 := hD1.mono e2
    -- for die in dice
    have hl : ps.length = dss.length := paired_len hD.2
    refine ⟨_, rfl, a, rfl, ⟨_, sq_of hD2.1⟩, for_list (K := K) (a := a) (xs := ps.map V.ref)
      (fun i σ H' => (∃ q y, σ = [some (.ref a), some (.ref q), y] ∧ H' q = some (.dK ((waysL (dss.take i)).map entI))) ∧ Same H2 H')
      ⟨⟨r, none, rfl, hr2⟩, Same.refl _⟩ (fun i σ H' _ ⟨_, e⟩ => sq_of (e _ _ hD2.1)) ?_ ?_⟩
    · rintro i x σ H3 hi ⟨⟨q, y, rfl, hq⟩, e3⟩
      rw [List.getElem?_map] at hi
      cases hpi : ps[i]? with
      | none => rw [hpi] at hi; cases hi
      | some p =>
        rw [hpi] at hi
        cases hi
        obtain ⟨ds, hdi, hp⟩ := paired_at hD2.2 hpi
        have hil : i < dss.length := (List.getElem?_eq_some_iff.mp hdi).1
        have hw := ways_le g8 (i := i) (by omega)
        refine ⟨_, rfl, _, rfl, q, p, _, ds, rfl, hq, e3 _ _ hp, ?_, fun H4 q2 e4 nq2 hq2 => ⟨⟨q2, _, rfl, ?_⟩, e3.trans e4⟩⟩
        · have h8 := g8 ds (List.mem_of_getElem? hdi)
          have := Nat.mul_le_mul hw h8
          omega
        · rw [hq2, take_snoc hdi, waysL_snoc]
    · rintro σ H3 ⟨⟨q, y, rfl, hq⟩, e3⟩
      rw [List.length_map, hl, List.take_length] at hq
      have e13 := (e1.trans e2).trans e3
      refine ⟨_, rfl, q, _, rfl, hq, fun H4 p rows e4 np nrows nin hnd hperm hsort hp hrows => ?_⟩
      have T1 := tells_ways dss
      have nd2 : ((rows.map (·.2)).map (·.1)).Nodup := (hperm.map (·.1)).nodup_iff.mpr T1.nd
      exact q1 a ps dss rfl hD l1 l2 hg H4 p rows (e13.trans e4) (Same.free e13 np) (fun z hz => Same.free e13 (nrows z hz)) nin (counts_of_tells T1 hperm (rise_of_lex nd2 hsort)) ⟨hp, hrows⟩ (by
        have z := hperm.length_eq
        rw [List.length_map] at z
        have := ways_top g8 l2
        omega)
end
end My

namespace My
open PySem PySem.Spec PyProof.Rows L2
open PySem.W (Datum Tup)
section
variable {P : Program} {w : World} {K : PySem.W.Frag} {mg : Str → Option Value} {base : Heap}
/-! ### what is left when some sums are taken -/
theorem dropK_entI (m : List (Int × Int)) (k : Int) : dropK (m.map entI) (Sum.inl k) = (m.filter fun p => decide (p.1 ≠ k)).map entI := by
  unfold dropK
  rw [List.filter_map]
  congr 1
  refine List.filter_congr fun p _ => ?_
  show decide ((Sum.inl p.1 : Key) ≠ Sum.inl k) = decide (p.1 ≠ k)
  exact decide_eq_decide.mpr ⟨fun h z => h (by rw [z]), fun h z => h (Sum.inl.inj z)⟩
theorem valV_there {m : List (Int × Int)} {k : Int} (h : lookI m k ≠ 0) : (valV (m.map entI) (Sum.inl k)).isSome = true := by
  rw [valV_entI_some (List.mem_map.mpr ⟨_, look_ne_mem h, rfl⟩)]
  rfl
/-- in steps: none once one is missing -/
def woutS (m : List (Int × Int)) : List Int → Option (List (Int × Int))
  | ts => wout m ts
theorem wout_snoc : ∀ (ts : List Int) (m : List (Int × Int)) (t : Int), wout m (ts ++ [t]) = (wout m ts).bind fun m' => wout m' [t]
  | [], m, t => rfl
  | u :: ts, m, t => by
    rw [List.cons_append]
    unfold wout
    by_cases c : lookI m u = 0
    · rw [if_pos c, if_pos c]
      rfl
    · rw [if_neg c, if_neg c]
      by_cases d : lookI m u = 1
      · rw [if_pos d, if_pos d]
        exact wout_snoc ts _ t
      · rw [if_neg d, if_neg d]
        exact wout_snoc ts _ t
theorem wout_more {ts : List Int} {m : List (Int × Int)} (h : wout m ts = none) : ∀ us, wout m (ts ++ us) = none := by
  intro us
  induction ts generalizing m with
  | nil => cases h
  | cons t r ih =>
    rw [List.cons_append]
    unfold wout at h ⊢
    by_cases c : lookI m t = 0
    · rw [if_pos c]
    · rw [if_neg c] at h ⊢
      by_cases d : lookI m t = 1
      · rw [if_pos d] at h ⊢
        exact ih h
      · rw [if_neg d] at h ⊢
        exact ih h
theorem put_len_same {m : List (Int × Int)} {k v : Int} (h : lookI m k ≠ 0) : (putI m k v).length = m.length := by
  unfold putI
  rw [if_pos (List.any_eq_true.mpr ⟨_, look_ne_mem h, decide_eq_true rfl⟩), List.length_map]
theorem wout_len : ∀ {ts : List Int} {m m' : List (Int × Int)}, wout m ts = some m' → m'.length ≤ m.length
  | [], m, m', h => by
    rw [Option.some.inj h]
    exact Nat.le_refl _
  | t :: ts, m, m', h => by
    unfold wout at h
    by_cases c : lookI m t = 0
    · rw [if_pos c] at h
      cases h
    · rw [if_neg c] at h
      by_cases d : lookI m t = 1
      · rw [if_pos d] at h
        exact Nat.le_trans (wout_len h) (List.length_filter_le _ _)
      · rw [if_neg d] at h
        have := wout_len h
        rw [put_len_same c] at this
        exact this
def spWithout : Sp := fun vs H Q _ => ∃ (d t : Addr) (m : List (Int × Int)) (ts : List Int), vs = [.ref d, .ref t] ∧ H d = some (.dK (m.map entI)) ∧ H t = some (.lst (ts.map V.int)) ∧ m.length ≤ 100000 ∧
  (wout m ts = none → ∀ H', Same H H' → Q .non H') ∧ (∀ m', wout m ts = some m' → ∀ H' r, Same H H' → H r = none → H' r = some (.dK (m'.map entI)) → Q (.ref r) H')
theorem ok_without (T : Lay K mg) : FnOk P w K mg base CX0 1 T.a_without T.d_without ["left", "totals"] spWithout := by
  refine T.f_without.ok sc_without (fun vs H Q E h => ?_) (fun cdv A outer s H vs Q E hr h => ?_)
  · obtain ⟨_, _, _, _, rfl, _⟩ := h
    rfl
  · obtain ⟨d, t, m, ts, rfl, hd, ht, hz, q0, q1⟩ := h
    refine ⟨_, (pss_cons (ps_set (i := 2) sc_without.nd rfl (Or.inl rfl) (pe_callTy call_dictD (by rfl) T.n_dict (by decide +kernel) (pa_cons (pv 0) pa_nil)))
    (pss_cons (ps_for PassesOwn.never rfl (pi_list (pv 1)) (pg_name (i := 3) sc_without.nd rfl (Or.inl rfl)) (pss_cons (ps_set (i := 4) sc_without.nd rfl (Or.inl rfl) (pe_dget2 (hu_of hr) (pv 2) (pv 3) pe_int ⟨by rfl, by rfl, by rfl, by rfl⟩))
    (pss_cons (ps_if (pt_cmpR op_eq (pv 4) pe_int (nomark _)) (pss_one (ps_ret pe_non)) pss_nil)
    (pss_one (ps_if (pt_cmpR op_eq (pv 4) pe_int (nomark _)) (pss_one (ps_ddel (pv 2) (pv 3))) (pss_one (ps_dput (hu_of hr) (pv 2) (pv 3) (pe_op op_sub (pv 4) pe_int) rfl)))))))
    (pss_one (ps_ret (pv 2))))), ?_⟩
    -- rest = dict(left)
    refine ⟨_, rfl, d, _, rfl, .inl hd, fun r nr => ?_⟩
    have s1 := same_new (o := .dK (m.map entI)) nr
    have hr1 := upd_same (H := H) (a := r) (o := .dK (m.map entI))
    generalize upd H r (.dK (m.map entI)) = H1 at *
    have ntr : t ≠ r := fun z => by rw [← z, ht] at nr; cases nr
    let Keep : Hp → Prop := fun H' => ∀ b o, b ≠ r → H1 b = some o → H' b = some o
    have old : ∀ {H'}, Keep H' → Same H H' := fun k b o e => k b o (fun z => by rw [z, nr] at e; cases e) (s1 _ _ e)
    -- for total in totals
    refine ⟨_, rfl, t, rfl, ⟨_, sq_of (s1 _ _ ht)⟩, for_list (K := K) (a := t) (xs := ts.map V.int)
      (fun i σ H' => Keep H' ∧ ∃ y1 y2 m', σ = [some (.ref d), some (.ref t), some (.ref r), y1, y2] ∧ wout m (ts.take i) = some m' ∧ H' r = some (.dK (m'.map entI)))
      ⟨fun b o _ e => e, _, _, m, rfl, rfl, hr1⟩ (fun i σ H' _ p => sq_of (p.1 _ _ ntr (s1 _ _ ht))) ?_ ?_⟩
    · rintro i x σ H2 hi ⟨k2, y1, y2, m', rfl, hw, hr2⟩
      rw [List.getElem?_map] at hi
      cases hti : ts[i]? with
      | none => rw [hti] at hi; cases hi
      | some u =>
        rw [hti] at hi
        cases hi
        refine ⟨_, rfl, r, rfl, .inl ⟨_, .inl hr2⟩, _, rfl, _, DGet.k (k := Sum.inl u) hr2, ?_⟩
        rw [valV_entI]
        have e1 : ts.take (i + 1) = ts.take i ++ [u] := take_snoc hti
        have ew : wout m (ts.take (i + 1)) = wout m' [u] := by
          rw [e1, wout_snoc, hw]
          rfl
        have hm' := wout_len hw
        refine ⟨_, rfl, rfl, _, rfl, ?_⟩
        rw [dec_int]
        by_cases c : lookI m' u = 0
        · rw [show (lookI m' u == 0) = true from beq_iff_eq.mpr c]
          refine iteT (q0 ?_ H2 (old k2))
          have e2 : wout m (ts.take (i + 1)) = none := by
            rw [ew]
            unfold wout
            rw [if_pos c]
          have e3 : ts = ts.take (i + 1) ++ ts.drop (i + 1) := (List.take_append_drop _ _).symm
          rw [e3]
          exact wout_more e2 _
        · rw [show (lookI m' u == 0) = false from beq_eq_false_iff_ne.mpr c]
          refine iteF ⟨_, rfl, rfl, _, rfl, ?_⟩
          rw [dec_int]
          by_cases d1 : lookI m' u = 1
          · rw [show (lookI m' u == 1) = true from beq_iff_eq.mpr d1]
            refine iteT ⟨_, rfl, _, rfl, r, _, Sum.inl u, rfl, hr2, rfl, valV_there c, fun b o hb e => ?_, _, _, m'.filter fun p => decide (p.1 ≠ u), rfl, ?_, ?_⟩
            · rw [upd_ne hb]
              exact k2 b o hb e
            · rw [ew]
              unfold wout
              rw [if_neg c, if_pos d1]
              rfl
            · rw [upd_same, dropK_entI]
          · rw [show (lookI m' u == 1) = false from beq_eq_false_iff_ne.mpr d1]
            refine iteF ⟨_, rfl, _, 1, rfl, rfl, _, rfl, _, rfl, r, _, rfl, DPut.k (k := Sum.inl u) hr2 (sz_lt ?_), fun b o hb e => ?_, _, _, putI m' u (lookI m' u - 1), rfl, ?_, ?_⟩
            · rw [List.length_map]
              omega
            · rw [upd_ne hb]
              exact k2 b o hb e
            · rw [ew]
              unfold wout
              rw [if_neg c, if_neg d1]
              rfl
            · rw [upd_same, putK_entI]
    · rintro σ H2 ⟨k2, y1, y2, m', rfl, hw, hr2⟩
      rw [List.length_map, List.take_length] at hw
      refine ⟨_, rfl, q1 m' hw H2 r (old k2) nr hr2⟩
end
end My

namespace My
open PySem PySem.Spec PyProof.Rows L2
open PySem.W (Datum Tup)
section
variable {P : Program} {w : World} {K : PySem.W.Frag} {mg : Str → Option Value} {base : Heap}
/-! ### a face more -/
def keysE (xs : List Ent) : List Pr := xs.map (·.2.1)
def Led (H : Hp) (g : Int → Int) (M N : Nat) (a b : Int) (k : Nat) (xs : List Ent) : Prop := ∀ x ∈ xs, PairAt H x.1 x.2.1 ∧ ∃ m, H x.2.2 = some (.dK (m.map entI)) ∧ Entry g M N a b k x.2.1 m
theorem Led.keyed {H : Hp} {g : Int → Int} {M N k : Nat} {a b : Int} {xs : List Ent} (L : Led H g M N a b k xs) : Keyed H xs := fun x hx => (L x hx).1
theorem Led.keeps {H H' : Hp} {g : Int → Int} {M N k : Nat} {a b : Int} {xs : List Ent} (L : Led H g M N a b k xs) (h1 : ∀ c ys, H c = some (.tup ys) → H' c = some (.tup ys)) (h2 : ∀ c m, H c = some (.dK m) → H' c = some (.dK m)) : Led H' g M N a b k xs := fun x hx =>
  let ⟨p, m, e, E⟩ := L x hx
  ⟨p.keeps h1, m, h2 _ _ e, E⟩
def Has (M N k : Nat) (keys : List Pr) (q : Pr) : Prop := ∃ i j, i ≤ M ∧ j ≤ N ∧ i + j = k + 2 ∧ (q.1.take i, q.2.take j) ∈ keys
theorem led_put {H : Hp} {g : Int → Int} {M N k : Nat} {a b : Int} {ys : List Ent} {t v : Addr} {p : Pr} {m : List (Int × Int)} (L : Led H g M N a b k ys) (hp : PairAt H t p) (hv : H v = some (.dK (m.map entI))) (E : Entry g M N a b k p m) :
    Led H g M N a b k (putE ys t p v) := by
  intro x hx
  unfold putE at hx
  split at hx
  · obtain ⟨y, hy, rfl⟩ := List.mem_map.mp hx
    by_cases c : y.2.1 = p
    · rw [if_pos c]
      refine ⟨(L y hy).1, m, hv, ?_⟩
      show Entry g M N a b k y.2.1 m
      rw [c]
      exact E
    · rw [if_neg c]
      exact L y hy
  · rcases List.mem_append.mp hx with h | h
    · exact L x h
    · rw [List.mem_singleton.mp h]
      exact ⟨hp, m, hv, E⟩
theorem put_has (ys : List Ent) (t v : Addr) (p : Pr) : p ∈ keysE (putE ys t p v) := by
  unfold keysE
  rw [putE_keys]
  split
  · assumption
  · exact List.mem_append_right _ (by simp)
theorem put_old {ys : List Ent} {t v : Addr} {p q : Pr} (h : q ∈ keysE ys) : q ∈ keysE (putE ys t p v) := by
  unfold keysE at *
  rw [putE_keys]
  split
  · exact h
  · exact List.mem_append_left _ h
theorem iteG {p : Prop} {dec : Decidable p} {A : Prop} {C : L2.St → Hp → Prop} {σ : L2.St} {H : Hp} (G : L2.St → Hp → Prop) (k : ∀ σ' H', G σ' H' → C σ' H') (g : ¬ p → G σ H) (h1 : p → (∀ σ' H', G σ' H' → C σ' H') → A) : if decide p = true then A else C σ H := by
  by_cases h : p
  · rw [decide_eq_true h, if_pos rfl]
    exact h1 h k
  · rw [decide_eq_false h]
    exact k σ H (g h)
/-- how far the longer ones are made -/
def Going (P : Program) (w : World) (g : Int → Int) (M N : Nat) (a b : Int) (k : Nat) (r : Addr) (H2 : Hp) (Done : Pr → Prop) (n : Nat) (H' : Hp) : Prop :=
  (∀ c o, c ≠ r → H2 c = some o → H' c = some o) ∧ ∃ ys, H' r = some (NdO P w r ys) ∧ Led H' g M N a b (k + 1) ys ∧ ys.length ≤ n ∧ ∀ q, IsPair g M N a q → Done q → Has M N (k + 1) (keysE ys) q
section
variable {g : Int → Int} {M N k n : Nat} {a b : Int} {r t v : Addr} {H2 H' H'' : Hp} {Done Done' : Pr → Prop} {p : Pr} {m : List (Int × Int)} {ys : List Ent}
theorem Going.more (G : Going P w g M N a b k r H2 Done n H') (e : Same H' H'') : Going P w g M N a b k r H2 Done n H'' :=
  let ⟨k1, ys, h1, L, h2, h3⟩ := G
  ⟨fun c o hc z => e _ _ (k1 c o hc z), ys, e _ _ h1, L.keeps (fun c ys z => e _ _ z) (fun c m z => e _ _ z), h2, h3⟩
theorem Going.weak (G : Going P w g M N a b k r H2 Done n H') (h : ∀ q, IsPair g M N a q → Done' q → Done q) {n' : Nat} (hn : n ≤ n') : Going P w g M N a b k r H2 Done' n' H' :=
  let ⟨k1, ys, h1, L, h2, h3⟩ := G
  ⟨k1, ys, h1, L, Nat.le_trans h2 hn, fun q Q d => h3 q Q (h q Q d)⟩
theorem going_put (k1 : ∀ c o, c ≠ r → H2 c = some o → H' c = some o) (h1 : H' r = some (NdO P w r ys)) (L : Led H' g M N a b (k + 1) ys) (h2 : ys.length ≤ n) (h3 : ∀ q, IsPair g M N a q → Done q → Has M N (k + 1) (keysE ys) q)
    (hp : PairAt H' t p) (hv : H' v = some (.dK (m.map entI))) (E : Entry g M N a b (k + 1) p m) :
    Going P w g M N a b k r H2 (fun q => Done q ∨ ∃ i j, i ≤ M ∧ j ≤ N ∧ i + j = k + 1 + 2 ∧ (q.1.take i, q.2.take j) = p) (n + 1) (upd H' r (NdO P w r (putE ys t p v))) := by
  have ht : ∀ c xs, H' c = some (.tup xs) → (upd H' r (NdO P w r (putE ys t p v))) c = some (.tup xs) := fun c xs z => by
    rw [upd_ne (ne_of z h1 fun z => nomatch z)]
    exact z
  have hd : ∀ c m, H' c = some (.dK m) → (upd H' r (NdO P w r (putE ys t p v))) c = some (.dK m) := fun c m z => by
    rw [upd_ne (ne_of z h1 fun z => nomatch z)]
    exact z
  refine ⟨fun c o hc z => ?_, putE ys t p v, upd_same, led_put (L.keeps ht hd) (hp.keeps ht) (hd _ _ hv) E, Nat.le_trans (putE_len ys t p v) (Nat.succ_le_succ h2), fun q Q d => ?_⟩
  · rw [upd_ne hc]
    exact k1 c o hc z
  · rcases d with d | ⟨i, j, hi, hj, hij, e⟩
    · obtain ⟨i, j, hi, hj, hij, h⟩ := h3 q Q d
      exact ⟨i, j, hi, hj, hij, put_old h⟩
    · exact ⟨i, j, hi, hj, hij, by rw [e]; exact put_has ys t v p⟩
end
def addV (c : Int) : V → V
  | .int i => .int (c + i)
  | _ => .non
theorem adds_are (c : Int) (l : List Int) : (l.map V.int).map (addV c) = (l.map (c + ·)).map V.int := by
  rw [List.map_map, List.map_map]
  rfl
theorem head_int {l : List Int} {a : Int} (h : l.head? = some a) : (l.map V.int)[0]? = some (.int a) := by
  cases l with
  | nil => cases h
  | cons x r =>
    have e : x = a := Option.some.inj h
    rw [e]
    rfl
def spMore (P : Program) (w : World) : Sp := fun vs H Q _ => ∃ (d : Addr) (M N k : Nat) (g : Int → Int) (a b : Int) (xs : List Ent), vs = [.ref d, .int (M : Int), .int (N : Int)] ∧ H d = some (NdO P w d xs) ∧ Led H g M N a b k xs ∧ k + 2 < M + N ∧ M ≤ 6 ∧ N ≤ 6 ∧ xs.length ≤ 5000 ∧
  (∀ q, IsPair g M N a q → Has M N k (keysE xs) q) ∧
  ∀ H' r ys, Same H H' → H r = none → H' r = some (NdO P w r ys) → Led H' g M N a b (k + 1) ys → ys.length ≤ 2 * xs.length → (∀ q, IsPair g M N a q → Has M N (k + 1) (keysE ys) q) → Q (.ref r) H'
theorem ok_with_a_face_more (T : Lay K mg) : FnOk P w K mg base CX0 3 T.a_with_a_face_more T.d_with_a_face_more ["begun", "many", "more"] (spMore P w) := by
  refine T.f_with_a_face_more.ok sc_with_a_face_more (fun vs H Q E h => ?_) (fun cdv A outer s H vs Q E hr h => ?_)
  · obtain ⟨_, _, _, _, _, _, _, _, rfl, _⟩ := h
    rfl
  · obtain ⟨d, M, N, k, g, a, b, xs, rfl, hd, L, hk, hM, hN, hz, full, q⟩ := h
    refine ⟨_, (pss_cons (ps_set (i := 3) sc_with_a_face_more.nd rfl (Or.inl rfl) (pe_same (t' := tNNew P w) pe_nnew rfl))
    (pss_cons (ps_lock (ps_for PassesOwn.never rfl (pi_same (t' := iNItems P w _) (pi_nitems (pv 0)) rfl) (pg_tup rfl (pgs_cons (pg_tup rfl (pgs_cons (pg_name (i := 4) sc_with_a_face_more.nd rfl (Or.inl rfl)) (pgs_cons (pg_name (i := 5) sc_with_a_face_more.nd rfl (Or.inl rfl)) pgs_nil))) (pgs_cons (pg_name (i := 6) sc_with_a_face_more.nd rfl (Or.inl rfl)) pgs_nil))) (pss_cons (ps_set (i := 7) sc_with_a_face_more.nd rfl (Or.inl rfl) (pe_callB (cr_minK rfl) (by rfl) T.n_min (by decide +kernel) (pa_cons (pv 6) pa_nil)))
    (pss_cons (ps_if (pt_cmpR op_lt (pe_callB call_len_seq (by rfl) T.n_len PySem.boot_len (pa_cons (pv 4) pa_nil)) (pv 1) (nomark _)) (pss_cons (ps_set (i := 8) sc_with_a_face_more.nd rfl (Or.inr rfl) (pe_op op_sub (pv 7) (pe_ix ix_tup (pv 5) pe_int (fun _ _ => rfl))))
    (pss_cons (ps_set (i := 9) sc_with_a_face_more.nd rfl (Or.inl rfl) (pe_call (ok_without T) (hr.mono (by decide)) (by rfl) T.g_without T.f_without.kp T.b_without .nil pass0 (pa_cons (pv 6) (pa_cons (pe_lc (own := [("against", 10)]) (g := (gName 10)) rfl sc_with_a_face_more.nd (pi_tup (pv 5)) (blkOk_by (N := nm_with_a_face_more) (sc := defScope st_with_a_face_more) (by decide +kernel)) (fun _ _ _ _ _ => (pg_name (i := 10) sc_with_a_face_more.nd rfl (Or.inl rfl))) (fun _ _ _ _ _ => pts_nil) (fun _ _ _ _ _ => (pe_op op_add (pv 8) (pv 10)))) pa_nil))))
    (pss_one (ps_if (pt_cmpR op_notN (pv 9) pe_non (nomark _)) (pss_one (ps_same (t' := sNPut P w _ _ _) (ps_nput hr.units (pv 3) (pe_tup (pa_cons (pe_op op_catT (pv 4) (pe_tup (pa_cons (pv 8) pa_nil))) (pa_cons (pv 5) pa_nil))) (pv 9) rfl) rfl)) pss_nil)))) pss_nil)
    (pss_one (ps_if (pt_cmpR op_lt (pe_callB call_len_seq (by rfl) T.n_len PySem.boot_len (pa_cons (pv 5) pa_nil)) (pv 2) (nomark _)) (pss_cons (ps_set (i := 8) sc_with_a_face_more.nd rfl (Or.inr rfl) (pe_op op_sub (pv 7) (pe_ix ix_tup (pv 4) pe_int (fun _ _ => rfl))))
    (pss_cons (ps_set (i := 9) sc_with_a_face_more.nd rfl (Or.inl rfl) (pe_call (ok_without T) (hr.mono (by decide)) (by rfl) T.g_without T.f_without.kp T.b_without .nil pass0 (pa_cons (pv 6) (pa_cons (pe_lc (own := [("against", 10)]) (g := (gName 10)) rfl sc_with_a_face_more.nd (pi_tup (pv 4)) (blkOk_by (N := nm_with_a_face_more) (sc := defScope st_with_a_face_more) (by decide +kernel)) (fun _ _ _ _ _ => (pg_name (i := 10) sc_with_a_face_more.nd rfl (Or.inl rfl))) (fun _ _ _ _ _ => pts_nil) (fun _ _ _ _ _ => (pe_op op_add (pv 8) (pv 10)))) pa_nil))))
    (pss_one (ps_if (pt_cmpR op_notN (pv 9) pe_non (nomark _)) (pss_one (ps_same (t' := sNPut P w _ _ _) (ps_nput hr.units (pv 3) (pe_tup (pa_cons (pv 4) (pa_cons (pe_op op_catT (pv 5) (pe_tup (pa_cons (pv 8) pa_nil))) pa_nil))) (pv 9) rfl) rfl)) pss_nil)))) pss_nil))))))
    (pss_one (ps_ret (pv 3))))), ?_⟩
    -- further = {}
    refine fun r nr => ?_
    have s1 := same_new (o := NdO P w r []) nr
    have hr1 := upd_same (H := H) (a := r) (o := NdO P w r [])
    have hd1 := s1 _ _ hd
    have nrd : r ≠ d := fun z => by rw [z, hd] at nr; cases nr
    change (∀ b o, H b = some o → (upd H r (NdO P w r [])) b = some o) at s1
    generalize upd H r (NdO P w r []) = H1 at *
    refine ⟨d, _, hd1, trivial, fun od => ?_⟩
    refine ⟨_, rfl, d, od, xs, rfl, upd_same, ?_⟩
    have hdF := upd_same (H := H1) (a := d) (o := .frz od (NdO P w d xs))
    have hrF : (upd H1 d (.frz od (NdO P w d xs))) r = some (NdO P w r []) := by
      rw [upd_ne nrd]
      exact hr1
    have oldF : ∀ c o, c ≠ d → H c = some o → (upd H1 d (.frz od (NdO P w d xs))) c = some o := fun c o hc z => by
      rw [upd_ne hc]
      exact s1 c o z
    have LF : Led (upd H1 d (.frz od (NdO P w d xs))) g M N a b k xs := L.keeps (fun c ys z => oldF c _ (ne_of z hd fun z => nomatch z) z) (fun c m z => oldF c _ (ne_of z hd fun z => nomatch z) z)
    generalize upd H1 d (.frz od (NdO P w d xs)) = HF at *
    have G0 : Going P w g M N a b k r HF (Has M N k (keysE (xs.take 0))) 0 HF := by
      refine ⟨fun _ _ _ z => z, [], hrF, ?_, Nat.le_refl _, fun q Q h => ?_⟩
      · intro x h
        cases h
      · obtain ⟨_, _, _, _, _, h⟩ := h
        cases h
    refine for_nd (fun i σ H' => (∃ y4 y5 y6 y7 y8 y9 y10, σ = [some (.ref d), some (.int M), some (.int N), some (.ref r), y4, y5, y6, y7, y8, y9, y10]) ∧ Going P w g M N a b k r HF (Has M N k (keysE (xs.take i))) (2 * i) H')
      ⟨⟨_, _, _, _, _, _, _, rfl⟩, G0⟩ (fun i σ H' h => h.2.1 _ _ nrd.symm hdF) ?_ ?_
    · rintro i e σ H2 tt hi ⟨⟨y4, y5, y6, y7, y8, y9, y10, rfl⟩, G⟩ nt
      obtain ⟨et, ⟨f, sd⟩, ev⟩ := e
      obtain ⟨hp, m, hm, En⟩ := LF _ (List.mem_of_getElem? hi)
      have G1 := G.more (same_new (o := .tup [.ref et, .ref ev]) nt)
      have htt := upd_same (H := H2) (a := tt) (o := .tup [.ref et, .ref ev])
      generalize upd H2 tt (.tup [.ref et, .ref ev]) = H3 at *
      have t3 : ∀ {H'}, Going P w g M N a b k r HF (Has M N k (keysE (xs.take i))) (2 * i) H' → ∀ c xs, HF c = some (.tup xs) → H' c = some (.tup xs) := fun G c xs z => G.1 c _ (ne_of z hrF fun z => nomatch z) z
      obtain ⟨fa, sa, h0, hf, hs⟩ := hp
      dsimp only at hm En h0 hf hs
      have old : ∀ {H' : Hp}, (∀ c o, c ≠ r → HF c = some o → H' c = some o) → H' ev = some (.dK (m.map entI)) := fun k1 => k1 _ _ (ne_of hm hrF fun z => nomatch z) hm
      have oldT : ∀ {H' : Hp}, (∀ c o, c ≠ r → HF c = some o → H' c = some o) → ∀ c xs, HF c = some (.tup xs) → H' c = some (.tup xs) := fun k1 c xs z => k1 c _ (ne_of z hrF fun z => nomatch z) z
      refine ⟨tt, _, rfl, st_of htt, rfl, _, _, rfl, et, _, rfl, st_of (oldT G1.1 _ _ h0), rfl, _, _, rfl, _, _, rfl, rfl, _, _, rfl, rfl, ?_⟩
      -- total = min(left)
      have kne : m.map (·.1) ≠ [] := by
        intro z
        exact En.some hk (List.map_eq_nil_iff.mp z)
      refine ⟨_, rfl, ev, _, m.map (·.1), rfl, old G1.1, by rw [List.map_map, List.map_map]; rfl, kne, fun t tm tl => ?_⟩
      have ht : 0 < g t - conv (cntT f) sd t := (tells_key En.tells (tells_nonneg En.tells) t).mp tm
      have hl : ∀ s, 0 < g s - conv (cntT f) sd s → t ≤ s := fun s h => tl s ((tells_key En.tells (tells_nonneg En.tells) s).mpr h)
      have hil : i < xs.length := (List.getElem?_eq_some_iff.mp hi).1
      have h36 : M * N ≤ 6 * 6 := Nat.mul_le_mul hM hN
      have hsm := En.small
      have hf6 : f.length ≤ M := En.l1.2
      have hs6 : sd.length ≤ N := En.l2.2
      have ha0 : (f.map V.int)[0]? = some (.int a) := head_int En.h1
      have hb0 : (sd.map V.int)[0]? = some (.int b) := head_int En.h2
      -- what this entry brings
      let One : Pr → Prop := fun q => ∃ i j, i ≤ M ∧ j ≤ N ∧ i + j = k + 1 + 2 ∧ (∃ m', wout m (sd.map ((t - b) + ·)) = some m') ∧ (q.1.take i, q.2.take j) = (f ++ [t - b], sd)
      let Two : Pr → Prop := fun q => ∃ i j, i ≤ M ∧ j ≤ N ∧ i + j = k + 1 + 2 ∧ (∃ m', wout m (f.map ((t - a) + ·)) = some m') ∧ (q.1.take i, q.2.take j) = (f, sd ++ [t - a])
      have fin : ∀ {H' : Hp}, Going P w g M N a b k r HF (fun q => (Has M N k (keysE (xs.take i)) q ∨ One q) ∨ Two q) (2 * i + 2) H' → Going P w g M N a b k r HF (Has M N k (keysE (xs.take (i + 1)))) (2 * (i + 1)) H' := by
        intro H' G
        refine G.weak (fun q Q h => ?_) (by omega)
        obtain ⟨i1, j1, hi1, hj1, hij, hm1⟩ := h
        have e1 : xs.take (i + 1) = xs.take i ++ [(et, (f, sd), ev)] := take_snoc hi
        unfold keysE at hm1
        rw [e1, List.map_append] at hm1
        rcases List.mem_append.mp hm1 with h | h
        · exact .inl (.inl ⟨i1, j1, hi1, hj1, hij, h⟩)
        · have e2 : (q.1.take i1, q.2.take j1) = (f, sd) := List.mem_singleton.mp h
          rcases whole_step (t := t) En Q hi1 hj1 e2.symm hk ht hl with ⟨h1, h2, h3⟩ | ⟨h1, h2, h3⟩
          · refine .inl (.inr ⟨i1 + 1, j1, h1, hj1, by omega, h3, ?_⟩)
            exact Prod.ext h2 (Prod.mk.inj e2).2
          · refine .inr ⟨i1, j1 + 1, hi1, h1, by omega, h3, ?_⟩
            exact Prod.ext (Prod.mk.inj e2).1 h2
      refine ⟨_, rfl, fa, _, rfl, .inr (st_of (oldT G1.1 _ _ hf)), _, rfl, _, _, rfl, rfl, _, rfl, ?_⟩
      refine iteG (fun σ' H' => (∃ y8 y9 y10, σ' = [some (.ref d), some (.int M), some (.int N), some (.ref r), some (.ref fa), some (.ref sa), some (.ref ev), some (.int t), y8, y9, y10]) ∧ Going P w g M N a b k r HF (fun q => Has M N k (keysE (xs.take i)) q ∨ One q) (2 * i + 1) H') ?_ (fun hlt => ⟨⟨_, _, _, rfl⟩, G1.weak (fun q Q h => ?_) (Nat.le_succ _)⟩) ?_
      · -- the other die
        rintro σ' H4 ⟨⟨y8, y9, y10, rfl⟩, G4⟩
        refine ⟨_, rfl, sa, _, rfl, .inr (st_of (oldT G4.1 _ _ hs)), _, rfl, _, _, rfl, rfl, _, rfl, iteD (fun hlt => ?_) (fun hlt => ?_)⟩
        · have hlt2 : sd.length < N := by
            rw [List.length_map] at hlt
            omega
          refine ⟨_, rfl, _, rfl, fa, _, 0, .int a, rfl, rfl, st_of (oldT G4.1 _ _ hf), atI_nat (j := 0) ha0, t, a, rfl, rfl, ?_⟩
          refine ⟨_, rfl, _, rfl, fa, rfl, ⟨_, st_of (oldT G4.1 _ _ hf)⟩, fun D nD => ?_⟩
          refine lt_all (K := K) (addV (t - a)) nD (oldT G4.1 _ _ hf) (by rw [List.length_map]; omega) (fun x H' R hx e r N => ?_) (fun H5 e5 hD5 => ?_)
          · obtain ⟨y, _, rfl⟩ := List.mem_map.mp hx
            exact ⟨rfl, iteT (B := N H') ⟨_, rfl, _, rfl, t - a, y, rfl, rfl, r H' (Same.refl H')⟩⟩
          · rw [adds_are] at hD5
            have G5 := G4.more e5
            refine ⟨ev, D, m, f.map ((t - a) + ·), rfl, old G5.1, hD5, by omega, fun hn H6 e6 => ?_, fun m' hsm H6 r6 e6 n6 h6 => ?_⟩
            · refine ⟨_, rfl, rfl, _, rfl, ?_⟩
              rw [decide_eq_true (rfl : V.non = V.non)]
              refine iteF ⟨⟨_, _, _, _, _, _, _, rfl⟩, fin ((G5.more e6).weak (fun q Q h => ?_) (Nat.le_succ _))⟩
              rcases h with h | ⟨_, _, _, _, _, ⟨_, z⟩, _⟩
              · exact h
              · rw [hn] at z
                cases z
            · refine ⟨_, rfl, rfl, _, rfl, ?_⟩
              rw [decide_eq_false (show ¬ V.ref r6 = V.non from fun z => by cases z)]
              refine iteT ⟨_, rfl, _, rfl, _, rfl, _, rfl, _, rfl, sz_ok (show 1 ≤ 1000000 by decide), ?_⟩
              have G6 := G5.more e6
              intro p1 np1
              have s7 := same_new (H := H6) (o := (.tup [.int (t - a)])) np1
              have h7 := upd_same (H := H6) (a := p1) (o := (.tup [.int (t - a)]))
              generalize upd H6 p1 (.tup [.int (t - a)]) = H7 at *
              have G7 := G6.more s7
              refine ⟨sa, p1, _, _, rfl, rfl, st_of (oldT G7.1 _ _ hs), st_of h7, (fun z => by rw [z] at hb0; cases hb0), sz_ok (by rw [List.length_map]; show sd.length + 1 ≤ 1000000; omega), (fun z => by cases z), fun _ => ?_⟩
              intro p2 np2
              have s8 := same_new (H := H7) (o := (.tup (sd.map V.int ++ [.int (t - a)]))) np2
              have h8 := upd_same (H := H7) (a := p2) (o := (.tup (sd.map V.int ++ [.int (t - a)])))
              generalize upd H7 p2 (.tup (sd.map V.int ++ [.int (t - a)])) = H8 at *
              have G8 := G7.more s8
              refine ⟨sz_ok (show 2 ≤ 1000000 by decide), ?_⟩
              intro p3 np3
              have s9 := same_new (H := H8) (o := (.tup [.ref fa, .ref p2])) np3
              have h9 := upd_same (H := H8) (a := p3) (o := (.tup [.ref fa, .ref p2]))
              generalize upd H8 p3 (.tup [.ref fa, .ref p2]) = H9 at *
              have G9 := G8.more s9
              obtain ⟨k1, ys, hr9, L9, len9, full9⟩ := G9
              have hp9 : PairAt H9 p3 (f, sd ++ [t - a]) := ⟨fa, p2, h9, oldT k1 _ _ hf, by
                rw [s9 _ _ h8, List.map_append]
                rfl⟩
              have hv9 : H9 r6 = some (.dK (m'.map entI)) := s9 _ _ (s8 _ _ (s7 _ _ h6))
              refine ⟨r6, r, p3, (f, sd ++ [t - a]), ys, rfl, rfl, rfl, hr9, L9.keyed, hp9, sz_lt (by omega), ⟨_, _, _, _, _, _, _, rfl⟩, ?_⟩
              refine fin ((going_put k1 hr9 L9 len9 full9 hp9 hv9 (entry_two En hlt2 ht hl hsm)).weak (fun q Q h => ?_) (Nat.le_refl _))
              rcases h with h | ⟨i, j, h1, h2, h3, _, h4⟩
              · exact .inl h
              · exact .inr ⟨i, j, h1, h2, h3, h4⟩
        · refine ⟨⟨_, _, _, _, _, _, _, rfl⟩, fin (G4.weak (fun q Q h => ?_) (Nat.le_succ _))⟩
          rcases h with h | ⟨_, j, _, hj, _, _, e⟩
          · exact h
          · have e2 := congrArg List.length (Prod.mk.inj e).2
            rw [List.length_take, List.length_append] at e2
            rw [List.length_map] at hlt
            have e3 : ([t - a] : List Int).length = 1 := rfl
            omega
      · rcases h with h | ⟨i1, _, hi1, _, _, _, e⟩
        · exact h
        · have e2 := congrArg List.length (Prod.mk.inj e).1
          rw [List.length_take, List.length_append] at e2
          rw [List.length_map] at hlt
          have e3 : ([t - b] : List Int).length = 1 := rfl
          omega
      · intro hlt kk
        have hlt2 : f.length < M := by
          rw [List.length_map] at hlt
          omega
        refine ⟨_, rfl, _, rfl, sa, _, 0, .int b, rfl, rfl, st_of (oldT G1.1 _ _ hs), atI_nat (j := 0) hb0, t, b, rfl, rfl, ?_⟩
        refine ⟨_, rfl, _, rfl, sa, rfl, ⟨_, st_of (oldT G1.1 _ _ hs)⟩, fun D nD => ?_⟩
        refine lt_all (K := K) (addV (t - b)) nD (oldT G1.1 _ _ hs) (by rw [List.length_map]; omega) (fun x H' R hx e r N => ?_) (fun H5 e5 hD5 => ?_)
        · obtain ⟨y, _, rfl⟩ := List.mem_map.mp hx
          exact ⟨rfl, iteT (B := N H') ⟨_, rfl, _, rfl, t - b, y, rfl, rfl, r H' (Same.refl H')⟩⟩
        · rw [adds_are] at hD5
          have G5 := G1.more e5
          refine ⟨ev, D, m, sd.map ((t - b) + ·), rfl, old G5.1, hD5, by omega, fun hn H6 e6 => ?_, fun m' hsm H6 r6 e6 n6 h6 => ?_⟩
          · refine ⟨_, rfl, rfl, _, rfl, ?_⟩
            rw [decide_eq_true (rfl : V.non = V.non)]
            refine iteF (kk _ _ ⟨⟨_, _, _, rfl⟩, (G5.more e6).weak (fun q Q h => ?_) (Nat.le_succ _)⟩)
            rcases h with h | ⟨_, _, _, _, _, ⟨_, z⟩, _⟩
            · exact h
            · rw [hn] at z
              cases z
          · refine ⟨_, rfl, rfl, _, rfl, ?_⟩
            rw [decide_eq_false (show ¬ V.ref r6 = V.non from fun z => by cases z)]
            refine iteT ⟨_, rfl, _, rfl, _, rfl, _, rfl, sz_ok (show 1 ≤ 1000000 by decide), ?_⟩
            have G6 := G5.more e6
            intro p1 np1
            have s7 := same_new (H := H6) (o := (.tup [.int (t - b)])) np1
            have h7 := upd_same (H := H6) (a := p1) (o := (.tup [.int (t - b)]))
            generalize upd H6 p1 (.tup [.int (t - b)]) = H7 at *
            have G7 := G6.more s7
            refine ⟨fa, p1, _, _, rfl, rfl, st_of (oldT G7.1 _ _ hf), st_of h7, (fun z => by rw [z] at ha0; cases ha0), sz_ok (by rw [List.length_map]; show f.length + 1 ≤ 1000000; omega), (fun z => by cases z), fun _ => ?_⟩
            intro p2 np2
            have s8 := same_new (H := H7) (o := (.tup (f.map V.int ++ [.int (t - b)]))) np2
            have h8 := upd_same (H := H7) (a := p2) (o := (.tup (f.map V.int ++ [.int (t - b)])))
            generalize upd H7 p2 (.tup (f.map V.int ++ [.int (t - b)])) = H8 at *
            have G8 := G7.more s8
            refine ⟨_, rfl, sz_ok (show 2 ≤ 1000000 by decide), ?_⟩
            intro p3 np3
            have s9 := same_new (H := H8) (o := (.tup [.ref p2, .ref sa])) np3
            have h9 := upd_same (H := H8) (a := p3) (o := (.tup [.ref p2, .ref sa]))
            generalize upd H8 p3 (.tup [.ref p2, .ref sa]) = H9 at *
            have G9 := G8.more s9
            obtain ⟨k1, ys, hr9, L9, len9, full9⟩ := G9
            have hp9 : PairAt H9 p3 (f ++ [t - b], sd) := ⟨p2, sa, h9, by
              rw [s9 _ _ h8, List.map_append]
              rfl, oldT k1 _ _ hs⟩
            have hv9 : H9 r6 = some (.dK (m'.map entI)) := s9 _ _ (s8 _ _ (s7 _ _ h6))
            refine ⟨r6, r, p3, (f ++ [t - b], sd), ys, rfl, rfl, rfl, hr9, L9.keyed, hp9, sz_lt (by omega), kk _ _ ⟨⟨_, _, _, rfl⟩, ?_⟩⟩
            refine (going_put k1 hr9 L9 len9 full9 hp9 hv9 (entry_one En hlt2 ht hl hsm)).weak (fun q Q h => ?_) (Nat.le_refl _)
            rcases h with h | ⟨i, j, h1, h2, h3, _, h4⟩
            · exact .inl h
            · exact .inr ⟨i, j, h1, h2, h3, h4⟩
    · rintro σ H2 ⟨⟨y4, y5, y6, y7, y8, y9, y10, rfl⟩, G⟩
      rw [List.take_length] at G
      obtain ⟨k1, ys, hr2, L2, len2, full2⟩ := G
      have hd2 := k1 _ _ nrd.symm hdF
      refine ⟨hd2, _, rfl, q _ r ys ?_ nr ?_ ?_ len2 fun Q1 I1 => full2 Q1 I1 (full Q1 I1)⟩
      · intro c o z
        have hc : c ≠ r := fun y => by rw [y, nr] at z; cases z
        by_cases hcd : c = d
        · rw [hcd, hd] at z
          rw [hcd, upd_same]
          exact z
        · rw [upd_ne hcd]
          exact k1 c o hc (oldF c o hcd z)
      · rw [upd_ne nrd]
        exact hr2
      · refine L2.keeps (fun c ys z => ?_) (fun c m z => ?_)
        · rw [upd_ne (ne_of z hd2 fun z => nomatch z)]
          exact z
        · rw [upd_ne (ne_of z hd2 fun z => nomatch z)]
          exact z
end
end My

namespace My
open PySem PySem.Spec PyProof.Rows L2
open PySem.W (Datum Tup)
section
variable {P : Program} {w : World} {K : PySem.W.Frag} {mg : Str → Option Value} {base : Heap}
/-! ### all pairs with given counts -/
def PairsAt (H : Hp) (p : Addr) (ps : List (Addr × Pr)) : Prop := H p = some (.lst (ps.map fun z => V.ref z.1)) ∧ ∀ z ∈ ps, PairAt H z.1 z.2
def lowV (H : Hp) (v : V) : Int := match lstOf H v with
  | some (x :: _) => fstV H x
  | _ => 0
def leastB (low : Int) : V → Bool
  | .int z => decide (0 ≤ z) && decide (z ≤ low)
  | _ => false
theorem CThing.mono {H H' : Hp} (e : Same H H') {v : V} (t : CThing H v) : CThing H' v where
  kd := let ⟨n, k⟩ := t.kd; ⟨n, k.mono e⟩
  all := fun xs hx => by
    obtain ⟨n, k⟩ := t.kd
    rw [lstOf_same k e] at hx
    obtain ⟨h1, h2⟩ := t.all xs hx
    exact ⟨h1, fun x h => (h2 x h).mono e⟩
theorem countsV_same {H H' : Hp} (e : Same H H') {v : V} (t : CThing H v) (n : Int) : countsV H' n v = countsV H n v := by
  obtain ⟨m, k⟩ := t.kd
  unfold countsV
  rw [lstOf_same k e]
  cases hl : lstOf H v with
  | none => rfl
  | some xs =>
    obtain ⟨_, hall⟩ := t.all xs hl
    have tup : ∀ x ∈ xs, tupOf H' x = tupOf H x := fun x hx => by
      obtain ⟨m, km⟩ := (hall x hx).kd
      exact tupOf_same e km
    show countsB H' n xs = countsB H n xs
    unfold countsB
    have e1 : xs.all (rowV H') = xs.all (rowV H) := by
      rw [Bool.eq_iff_iff, List.all_eq_true, List.all_eq_true]
      exact ⟨fun h x hx => by rw [← rowV_same e (hall x hx)]; exact h x hx, fun h x hx => by rw [rowV_same e (hall x hx)]; exact h x hx⟩
    have e2 : xs.map (fstV H') = xs.map (fstV H) := List.map_congr_left fun x hx => by
      unfold fstV
      rw [tup x hx]
    have e3 : xs.map (sndV H') = xs.map (sndV H) := List.map_congr_left fun x hx => by
      unfold sndV
      rw [tup x hx]
    rw [e1, e2, e3]
theorem rows_paired {K : PySem.W.Frag} {H : Hp} : ∀ {rows : List (Addr × Int × Int)}, (∀ z ∈ rows, H z.1 = some (.tup [.int z.2.1, .int z.2.2])) → Paired (fun p kv => SqT K H p [kV kv.1, kv.2]) (rows.map (·.1)) ((rows.map (·.2)).map entI)
  | [], _ => .nil
  | z :: r, h => .cons (st_of (h z List.mem_cons_self)) (rows_paired fun y hy => h y (List.mem_cons_of_mem _ hy))
def spPairsOf (C N : Addr) : Sp := fun vs H Q E => ∃ (v b1 b2 b3 : V) (n1 n2 n3 : String), vs = [v, b1, b2, b3] ∧ Kd H b1 n1 ∧ Kd H b2 n2 ∧ Kd H b3 n3 ∧ CThing H v ∧
  (manyB b1 = false ∨ manyB b2 = false → ∀ H', Same H H' → E (.ref N) none H') ∧
  ∀ m1 m2 : Int, b1 = .int m1 → b2 = .int m2 → manyB b1 = true → manyB b2 = true →
    (countsV H (m1 * m2) v = false → ∀ H', Same H H' → E (.ref C) none H') ∧
    (countsV H (m1 * m2) v = true → leastB (lowV H v) b3 = false → ∀ H', Same H H' → E (.ref N) none H') ∧
    (countsV H (m1 * m2) v = true → leastB (lowV H v) b3 = true → ∃ (a : Addr) (rows : List (Addr × Int × Int)) (M L : Nat) (l : Int) (g : Int → Int), v = .ref a ∧ RowsAt H a rows ∧ IsCounts g (rows.map (·.2)) ∧ m1 = (M : Int) ∧ m2 = (L : Int) ∧ b3 = .int l ∧
      ∀ H' p ps, Same H H' → H p = none → PairsAt H' p ps → ps.length ≤ 1024 → AllPairs g M L l (ps.map (·.2)) → Q (.ref p) H')
theorem many_int {v : V} (h : manyB v = true) : ∃ z, v = .int z ∧ 1 ≤ z ∧ z ≤ 6 := by
  cases v with
  | int z =>
    have h : (decide (1 ≤ z) && decide (z ≤ 6)) = true := h
    rw [Bool.and_eq_true, decide_eq_true_eq, decide_eq_true_eq] at h
    exact ⟨z, rfl, h.1, h.2⟩
  | _ => cases h
theorem ok_pairs_of (T : Lay K mg) : FnOk P w K mg base (L2.CX P w) 4 T.a_pairs_of T.d_pairs_of ["rows", "many", "more", "least"] (spPairsOf T.a_BadCounts T.a_BadNumber) := by
  refine T.f_pairs_of.okX sc_pairs_of (fun vs H Q E h => ?_) (fun cdv A outer s H vs Q E hr h => ?_)
  · obtain ⟨_, _, _, _, _, _, _, rfl, _⟩ := h
    rfl
  · obtain ⟨v, b1, b2, b3, n1, n2, n3, rfl, k1, k2, k3, th, q0, q1⟩ := h
    have tk : Takes (cxOf (L2.CX P w) P w K mg base nm_pairs_of "pairs_of" (defScope st_pairs_of) T.a_pairs_of cdv A outer s H E) (fun cls d _ H => E cls d H) := takes_of rfl rfl rfl rfl
    refine ⟨_, (pss_cons (ps_expr (pe_call (ok_need_many_faces T) (hr.mono (by decide)) (by rfl) T.g_need_many_faces T.f_need_many_faces.kp T.b_need_many_faces .nil (passes_call tk fun _ _ _ _ h => h) (pa_cons (pv 1) pa_nil)))
    (pss_cons (ps_expr (pe_call (ok_need_many_faces T) (hr.mono (by decide)) (by rfl) T.g_need_many_faces T.f_need_many_faces.kp T.b_need_many_faces .nil (passes_call tk fun _ _ _ _ h => h) (pa_cons (pv 2) pa_nil)))
    (pss_cons (ps_expr (pe_call (ok_need_counts T) (hr.mono (by decide)) (by rfl) T.g_need_counts T.f_need_counts.kp T.b_need_counts .nil (passes_call tk fun _ _ _ _ h => h) (pa_cons (pv 0) (pa_cons (pe_op op_mul (pv 1) (pv 2)) pa_nil))))
    (pss_cons (ps_set (i := 4) sc_pairs_of.nd rfl (Or.inl rfl) (pe_ix ix_tup (pe_ix ix_list (pv 0) pe_int (fun _ _ => rfl)) pe_int (fun _ _ => rfl)))
    (pss_cons (ps_if (PW.pt (pw_or (pt_not (pt_val (pe_call (ok_is_number T) (hr.mono (by decide)) (by rfl) T.g_is_number T.f_is_number.kp T.b_is_number .nil pass0 (pa_cons (pv 3) pa_nil)))) (pw_or1 (pt_not (pt_chain op_le op_le pe_int (pv 3) (pv 4)))))) (pss_one (ps_raise rfl (takes_of rfl rfl rfl rfl) (pmk_own PySem.F.excBase_ValueError T.x_BadNumber.x T.g_BadNumber T.x_BadNumber.k (raises_own T.x_BadNumber.b T.x_BadNumber.t) rfl))) pss_nil)
    (pss_cons (ps_set (i := 5) sc_pairs_of.nd rfl (Or.inl rfl) (pe_call (ok_without T) (hr.mono (by decide)) (by rfl) T.g_without T.f_without.kp T.b_without .nil pass0 (pa_cons (pe_callTy (call_dictP rfl) (by rfl) T.n_dict (by decide +kernel) (pa_cons (pv 0) pa_nil)) (pa_cons (pe_lst (pa_cons (pv 4) pa_nil)) pa_nil))))
    (pss_cons (ps_set (i := 6) sc_pairs_of.nd rfl (Or.inl rfl) (pe_same (t' := tNDisp P w _ _) (pe_ndisp hr.units (pe_tup (pa_cons (pe_tup (pa_cons (pv 3) pa_nil)) (pa_cons (pe_tup (pa_cons (pe_op op_sub (pv 4) (pv 3)) pa_nil)) pa_nil))) (pv 5)) rfl))
    (pss_cons (ps_for (passes_of rfl) rfl (pi_range1 (by rfl) T.n_range (pa_cons (pe_op op_sub (pe_op op_add (pv 1) (pv 2)) pe_int) pa_nil)) (pg_name (i := 7) sc_pairs_of.nd rfl (Or.inl rfl)) (pss_one (ps_set (i := 6) sc_pairs_of.nd rfl (Or.inl rfl) (pe_call (ok_with_a_face_more T) (hr.mono (by decide)) (by rfl) T.g_with_a_face_more T.f_with_a_face_more.kp T.b_with_a_face_more .nil pass0 (pa_cons (pv 6) (pa_cons (pv 1) (pa_cons (pv 2) pa_nil)))))))
    (pss_one (ps_ret (pe_callB (cr_sortedN rfl hr.units) (r := rSortedN P w) (by rfl) T.n_sorted (by decide +kernel) (pa_cons (pv 6) pa_nil)))))))))))), ?_⟩
    refine ⟨_, rfl, b1, n1, rfl, k1, fun hm1 H1 e1 => ?_, fun hm1 H1 e1 => q0 (.inl hm1) H1 e1⟩
    refine ⟨_, rfl, b2, n2, rfl, k2.mono e1, fun hm2 H2 e2 => ?_, fun hm2 H2 e2 => q0 (.inr hm2) H2 (e1.trans e2)⟩
    obtain ⟨m1, rfl, a1, a2⟩ := many_int hm1
    obtain ⟨m2, rfl, a3, a4⟩ := many_int hm2
    have e02 := e1.trans e2
    obtain ⟨qc, ql, qg⟩ := q1 m1 m2 rfl rfl hm1 hm2
    have p1 : 1 ≤ m1 * m2 := by
      have := Int.mul_le_mul a1 a3 (by decide) (by omega)
      exact this
    have p2 : m1 * m2 ≤ 36 := by
      have := Int.mul_le_mul a2 a4 (by omega) (by decide)
      exact this
    refine ⟨_, rfl, _, rfl, _, rfl, m1, m2, rfl, rfl, .inl ⟨by omega, by omega⟩, v, m1 * m2, rfl, p1, p2, th.mono e02, fun hc H3 e3 => ?_, fun hc H3 e3 => qc (by rw [← countsV_same e02 th]; exact hc) H3 (e02.trans e3)⟩
    rw [countsV_same e02 th] at hc
    have e03 := e02.trans e3
    have hc0 := hc
    -- the rows
    have hx : ∃ xs, lstOf H v = some xs ∧ countsB H (m1 * m2) xs = true := by
      unfold countsV at hc
      cases hl : lstOf H v with
      | none => rw [hl] at hc; cases hc
      | some xs => rw [hl] at hc; exact ⟨xs, rfl, hc⟩
    obtain ⟨xs, hl, hcb⟩ := hx
    unfold countsB at hcb
    rw [Bool.and_eq_true, Bool.and_eq_true, decide_eq_true_eq] at hcb
    obtain ⟨⟨hall, hrise⟩, hsum⟩ := hcb
    obtain ⟨a, rfl, ha⟩ := lstOf_some hl
    have hne : ∃ x r, xs = x :: r := by
      cases xs with
      | nil =>
        have : (0 : Int) = m1 * m2 := hsum
        omega
      | cons x r => exact ⟨x, r, rfl⟩
    obtain ⟨x0, xr, rfl⟩ := hne
    obtain ⟨b0, s0, n0, rfl, hb0, hf0, _, hs0, hs1, _⟩ := rowV_some (List.all_eq_true.mp hall _ List.mem_cons_self)
    have hlow : lowV H (.ref a) = s0 := by
      unfold lowV
      rw [hl]
      exact hf0
    rw [hlow] at ql qg
    -- lowest = rows[0][0]
    refine ⟨_, rfl, a, _, 0, .ref b0, rfl, rfl, sq_of (e03 _ _ ha), atI_nat (j := 0) rfl, b0, _, 0, .int s0, rfl, rfl, st_of (e03 _ _ hb0), atI_nat (j := 0) rfl, ?_⟩
    -- the least face
    refine ⟨_, rfl, b3, n3, rfl, k3.mono e03, _, rfl, ?_⟩
    have bad : leastB s0 b3 = false → E (.ref T.a_BadNumber) none H3 := fun hb => ql hc0 hb H3 e03
    cases k3 with
    | int z =>
      refine iteF ⟨_, rfl, 0, z, rfl, rfl, _, rfl, iteD (fun h1 => ?_) (fun h1 => ?_)⟩
      · refine ⟨_, rfl, z, s0, rfl, rfl, _, rfl, ?_⟩
        by_cases h2 : z ≤ s0
        · rw [decide_eq_true h2]
          refine iteF ?_
          have hb : leastB s0 (.int z) = true := by
            show (decide (0 ≤ z) && decide (z ≤ s0)) = true
            rw [decide_eq_true h1, decide_eq_true h2]
            rfl
          obtain ⟨a', rows, M, L, l, g, ea, hR, hI, eM, eL, el, fin⟩ := qg hc0 hb
          cases ea
          cases el
          subst eM
          subst eL
          -- what the rows tell
          have hxs : rows.map (fun z => V.ref z.1) = V.ref b0 :: xr := by
            have := hR.1
            rw [ha] at this
            injection this with h
            injection h with h
            exact h.symm
          have pos : ∀ p ∈ rows.map (·.2), 0 < p.2 := by
            intro p hp
            obtain ⟨y, hy, rfl⟩ := List.mem_map.mp hp
            obtain ⟨c, s', n', ec, hc', _, _, _, _, hn'⟩ := rowV_some (List.all_eq_true.mp hall (.ref y.1) (by rw [← hxs]; exact List.mem_map.mpr ⟨y, hy, rfl⟩))
            cases ec
            rw [hR.2 y hy] at hc'
            injection hc' with h
            injection h with h
            injection h with h3 h4
            injection h4 with h4
            injection h4 with h4
            omega
          have T1 := tells_of_counts hI pos
          have hsum2 : sumV (rows.map (·.2)) = ((M * L : Nat) : Int) := by
            have e1 : (V.ref b0 :: xr).map (sndV H) = (rows.map (·.2)).map (·.2) := by
              rw [← hxs, List.map_map, List.map_map]
              refine List.map_congr_left fun y hy => ?_
              show sndV H (.ref y.1) = y.2.2
              unfold sndV
              rw [tupOf_ref (hR.2 y hy)]
            unfold sumV
            rw [← e1, hsum]
            exact (Int.natCast_mul M L).symm
          have hM : 1 ≤ M := by omega
          have hL : 1 ≤ L := by omega
          have hM6 : M ≤ 6 := by omega
          have hL6 : L ≤ 6 := by omega
          have h36 : M * L ≤ 6 * 6 := Nat.mul_le_mul hM6 hL6
          have hlen : (rows.map (·.2)).length ≤ M * L := by
            have := sumV_len pos
            rw [hsum2] at this
            omega
          have hfirst : ∃ n r, rows.map (·.2) = (s0, n) :: r := by
            cases rows with
            | nil => cases hxs
            | cons y r =>
              rw [List.map_cons] at hxs
              injection hxs with h3 _
              injection h3 with h3
              have h4 := hR.2 y List.mem_cons_self
              rw [h3, hb0] at h4
              injection h4 with h
              injection h with h
              injection h with h5 _
              injection h5 with h5
              exact ⟨y.2.2, r.map (·.2), by rw [h5]; rfl⟩
          obtain ⟨nn, rr, hfr⟩ := hfirst
          have hleast : 0 < g s0 ∧ ∀ s, 0 < g s → s0 ≤ s := by
            rw [hfr] at hI
            exact rise_least hI (pos (s0, nn) (by rw [hfr]; exact List.mem_cons_self))
          obtain ⟨m0, hw0, En0⟩ := entry_start (a := z) T1 hM hL hleast.1 hleast.2 hsum2 hlen
          -- left = without(dict(rows), [lowest])
          have hR3 := hR.mono e03
          refine ⟨_, rfl, a, rows.map (·.1), (rows.map (·.2)).map entI, rfl, ?_, ?_, fun d1 nd1 => ?_⟩
          · rw [List.map_map]
            exact sq_of hR3.1
          · exact rows_paired fun y hy => hR3.2 y hy
          have emerge : mergeK [] ((rows.map (·.2)).map entI) = (rows.map (·.2)).map entI := by
            have nd := T1.nd
            exact merge_ints _ [] nd
          rw [emerge]
          have s4 := same_new (o := .dK ((rows.map (·.2)).map entI)) nd1
          have hd1 := upd_same (H := H3) (a := d1) (o := .dK ((rows.map (·.2)).map entI))
          generalize upd H3 d1 (.dK ((rows.map (·.2)).map entI)) = H4 at *
          refine ⟨_, rfl, sz_ok (show 1 ≤ 1000000 by decide), ?_⟩
          intro d2 nd2
          have s5 := same_new (H := H4) (o := (.lst [.int s0])) nd2
          have hd2 := upd_same (H := H4) (a := d2) (o := (.lst [.int s0]))
          generalize upd H4 d2 (.lst [.int s0]) = H5 at *
          have e05 := (e03.trans s4).trans s5
          refine ⟨d1, d2, _, [s0], rfl, s5 _ _ hd1, hd2, by omega, (fun hn => by rw [hw0] at hn; cases hn), fun m' hw H6 r6 e6 n6 h6 => ?_⟩
          have em : m0 = m' := Option.some.inj (hw0.symm.trans hw)
          subst em
          -- begun
          refine fun d nd => ?_
          have s7 := same_new (o := NdO P w d []) nd
          have hdN := upd_same (H := H6) (a := d) (o := NdO P w d [])
          generalize upd H6 d (NdO P w d []) = H7 at *
          refine ⟨_, rfl, sz_ok (show 1 ≤ 1000000 by decide), ?_⟩
          intro p1 np1
          have s8 := same_new (H := H7) (o := (.tup [.int z])) np1
          have h8 := upd_same (H := H7) (a := p1) (o := (.tup [.int z]))
          generalize upd H7 p1 (.tup [.int z]) = H8 at *
          refine ⟨_, rfl, _, rfl, s0, z, rfl, rfl, sz_ok (show 1 ≤ 1000000 by decide), ?_⟩
          intro p2 np2
          have s9 := same_new (H := H8) (o := (.tup [.int (s0 - z)])) np2
          have h9 := upd_same (H := H8) (a := p2) (o := (.tup [.int (s0 - z)]))
          generalize upd H8 p2 (.tup [.int (s0 - z)]) = H9 at *
          refine ⟨sz_ok (show 2 ≤ 1000000 by decide), ?_⟩
          intro p3 np3
          have s10 := same_new (H := H9) (o := (.tup [.ref p1, .ref p2])) np3
          have h10 := upd_same (H := H9) (a := p3) (o := (.tup [.ref p1, .ref p2]))
          generalize upd H9 p3 (.tup [.ref p1, .ref p2]) = H10 at *
          have e710 := (s8.trans s9).trans s10
          have hd10 := e710 _ _ hdN
          have hp10 : PairAt H10 p3 ([z], [s0 - z]) := ⟨p1, p2, h10, s10 _ _ (s9 _ _ h8), s10 _ _ h9⟩
          refine ⟨_, rfl, p3, r6, ([z], [s0 - z]), rfl, rfl, hd10, hp10, ?_⟩
          have hr10 : H10 r6 = some (.dK (m0.map entI)) := e710 _ _ (s7 _ _ h6)
          have oldd : ∀ c o, c ≠ d → H10 c = some o → (upd H10 d (NdO P w d [(p3, ([z], [s0 - z]), r6)])) c = some o := fun c o hc y => by
            rw [upd_ne hc]
            exact y
          have e0d : Same H (upd H10 d (NdO P w d [(p3, ([z], [s0 - z]), r6)])) := fun c o y => by
            have h6' := (e05.trans e6) _ _ y
            refine oldd c o (fun q => by rw [q, nd] at h6'; cases h6') (e710 _ _ (s7 _ _ h6'))
          have hdd := upd_same (H := H10) (a := d) (o := NdO P w d [(p3, ([z], [s0 - z]), r6)])
          have L0 : Led (upd H10 d (NdO P w d [(p3, ([z], [s0 - z]), r6)])) g M L z (s0 - z) 0 [(p3, ([z], [s0 - z]), r6)] := by
            intro x hx
            rw [List.mem_singleton.mp hx]
            exact ⟨hp10.keeps fun c ys y => oldd c _ (ne_of y hd10 fun y => nomatch y) y, m0, oldd _ _ (ne_of hr10 hd10 fun y => nomatch y) hr10, En0⟩
          generalize upd H10 d (NdO P w d [(p3, ([z], [s0 - z]), r6)]) = H11 at *
          -- the turns
          refine ⟨_, rfl, _, rfl, (M : Int), (L : Int), rfl, rfl, _, 2, rfl, rfl, _, rfl, by omega, by omega, for_range (lo := 0)
            (fun i σ H' => Same H H' ∧ ∃ (y7 : Option V) (c : Addr) (xs : List Ent), σ = [some (.ref a), some (.int M), some (.int L), some (.int z), some (.int s0), some (.ref r6), some (.ref c), y7] ∧ H' c = some (NdO P w c xs) ∧ Led H' g M L z (s0 - z) i xs ∧ xs.length ≤ 2 ^ i ∧
              ∀ q, IsPair g M L z q → Has M L i (keysE xs) q)
            ⟨e0d, _, d, _, rfl, hdd, L0, Nat.le_refl 1, fun q Q1 => ?_⟩ ?_ ?_⟩
          · obtain ⟨t1, t2⟩ := start_whole Q1 hL hM hleast.1 hleast.2
            exact ⟨1, 1, hM, hL, rfl, by rw [t1, t2]; exact List.mem_singleton.mpr rfl⟩
          · rintro i σ H12 hi ⟨e12, y7, c, xs, rfl, hc, L12, lx, full⟩
            have hi2 : i < M + L - 2 := by omega
            have hp9 : 2 ^ i ≤ 2 ^ 9 := Nat.pow_le_pow_right (by decide) (by omega)
            have h512 : (2 : Nat) ^ 9 = 512 := by decide
            refine ⟨_, rfl, _, rfl, _, rfl, c, M, L, i, g, z, s0 - z, xs, rfl, hc, L12, by omega, hM6, hL6, by omega, full, fun H' r ys e nr hr Lr ly fullr => ⟨e12.trans e, _, r, ys, rfl, hr, Lr, ?_, fullr⟩⟩
            rw [Nat.pow_succ]
            omega
          · rintro σ H12 ⟨e12, y7, c, xs, rfl, hc, L12, lx, full⟩
            have hk2 : ((M : Int) + (L : Int) - 2).toNat + 2 = M + L := by omega
            generalize ((M : Int) + (L : Int) - 2).toNat = kk at *
            refine ⟨_, rfl, c, xs, rfl, hc, L12.keyed, fun ys p hp hn hw np => fin _ p (ys.map fun x => (x.1, x.2.1)) (e12.trans (same_new np)) (Same.free e12 np) ⟨?_, fun y hy => ?_⟩ ?_ ⟨fun q => ?_, ?_⟩⟩
            · rw [upd_same, List.map_map]
              rfl
            · obtain ⟨x, hx, rfl⟩ := List.mem_map.mp hy
              exact (L12 x (hp.mem_iff.mp hx)).1.keeps fun b ys y => same_new np _ _ y
            · rw [List.length_map, hp.length_eq]
              have h10 : 2 ^ kk ≤ 2 ^ 10 := Nat.pow_le_pow_right (by decide) (by omega)
              have h1024 : (2 : Nat) ^ 10 = 1024 := by decide
              omega
            · have em : (ys.map fun x => (x.1, x.2.1)).map (·.2) = ys.map (·.2.1) := by
                rw [List.map_map]
                rfl
              rw [em]
              constructor
              · intro h
                obtain ⟨x, hx, rfl⟩ := List.mem_map.mp h
                obtain ⟨_, m', _, En⟩ := L12 x (hp.mem_iff.mp hx)
                exact entry_done En hk2 (by omega)
              · intro h
                obtain ⟨i, j, hi, hj, hij, hm⟩ := full q h
                have ei : i = M := by omega
                have ej : j = L := by omega
                rw [ei, ej, List.take_of_length_le (by rw [h.one]; exact Nat.le_refl _), List.take_of_length_le (by rw [h.other]; exact Nat.le_refl _)] at hm
                exact (hp.map (·.2.1)).mem_iff.mpr hm
            · have em : (ys.map fun x => (x.1, x.2.1)).map (·.2) = ys.map (·.2.1) := by
                rw [List.map_map]
                rfl
              rw [em]
              exact strict_of hn (List.pairwise_map.mpr hw)
        · rw [decide_eq_false h2]
          exact iteT (bad (by show (decide (0 ≤ z) && decide (z ≤ s0)) = false; rw [decide_eq_false h2, Bool.and_false]))
      · exact ⟨_, rfl, iteT (bad (by show (decide (0 ≤ z) && decide (z ≤ s0)) = false; rw [decide_eq_false h1, Bool.false_and]))⟩
    | _ => exact iteT (bad rfl)
end
end My

namespace My
open PySem PySem.Spec PyProof.Rows L2
open PySem.W (Datum Tup)
section
variable {P : Program} {w : World} {K : PySem.W.Frag} {mg : Str → Option Value} {base : Heap}
/-! ### the law's own counting -/
theorem counted_is {T : List Int} {ns : List Int} (hr : ns.Pairwise (· < ·)) (hm : ∀ k, k ∈ ns ↔ k ∈ T) : IsCounts (cntT T) (ns.map fun k => (k, cntT T k)) where
  rise := List.pairwise_map.mpr (hr.imp fun h => h)
  mem := fun s n => by
    rw [List.mem_map]
    constructor
    · rintro ⟨k, hk, e⟩
      have e1 : k = s := congrArg Prod.fst e
      have e2 : cntT T k = n := congrArg Prod.snd e
      subst e1
      have := cntT_pos.mpr ((hm k).mp hk)
      exact ⟨e2.symm, by omega⟩
    · rintro ⟨e, h⟩
      have h0 := cntT_nonneg T s
      exact ⟨s, (hm s).mpr (cntT_pos.mp (by omega)), by rw [e]⟩
def countV (T : List Int) : V → Int × Int
  | .int k => (k, cntT T k)
  | _ => (0, 0)
def spCounted : Sp := fun vs H Q _ => ∃ (a : Addr) (T : List Int), vs = [.ref a] ∧ H a = some (.lst (T.map V.int)) ∧ T.length < 64 ∧
  ∀ H' p rows, Same H H' → H p = none → (∀ z ∈ rows, H z.1 = none) → p ∉ rows.map (·.1) → IsCounts (cntT T) (rows.map (·.2)) → RowsAt H' p rows → Q (.ref p) H'
theorem ok_law_counted (T : Lay K mg) : FnOk P w K mg base CX0 1 T.a_law_counted T.d_law_counted ["_law_sums"] spCounted := by
  refine T.f_law_counted.ok sc_law_counted (fun vs H Q E h => ?_) (fun cdv A outer s H vs Q E hr h => ?_)
  · obtain ⟨_, _, rfl, _⟩ := h
    rfl
  · obtain ⟨a, ts, rfl, ha, h64, q⟩ := h
    refine ⟨_, (pss_one (ps_ret (pe_lc (own := [("_law_total", 1)]) (g := (gName 1)) rfl sc_law_counted.nd (pi_list (pe_callB (cr_sortedSet rfl) (r := rSortedSet w) (by rfl) T.n_sorted (by decide +kernel) (pa_cons (pe_callTy (cr_setI rfl) (r := rSetI K w) (by rfl) T.n_set (by decide +kernel) (pa_cons (pv 0) pa_nil)) pa_nil))) (blkOk_by (N := nm_law_counted) (sc := defScope st_law_counted) (by decide +kernel)) (fun _ _ _ _ _ => (pg_name (i := 1) sc_law_counted.nd rfl (Or.inl rfl))) (fun _ _ _ _ _ => pts_nil) (fun _ _ _ _ _ => (pe_tup (pa_cons (pv 1) (pa_cons (pe_same (t' := tBM K "list" (rCntI K) _ _) (pe_bm PySem.F.plainAttrs_list PySem.F.slot_list_count PySem.F.type_list_count mt_lcount (pv 0) (pa_cons (pv 1) pa_nil)) rfl) pa_nil))))))), ?_⟩
    refine ⟨_, rfl, a, ts, rfl, sq_of ha, h64, fun d n nd hn => ?_⟩
    have s1 := same_new (o := SetO w d (fun k => decide (k ∈ ts)) n) nd
    have hd1 := upd_same (H := H) (a := d) (o := SetO w d (fun k => decide (k ∈ ts)) n)
    generalize upd H d (SetO w d (fun k => decide (k ∈ ts)) n) = H1 at *
    refine ⟨d, _, n, rfl, hd1, hn, fun ns b hr2 hm hl nb => ?_⟩
    have s2 := same_new (o := .lst (ns.map V.int)) nb
    have hb2 := upd_same (H := H1) (a := b) (o := .lst (ns.map V.int))
    generalize upd H1 b (.lst (ns.map V.int)) = H2 at *
    have e02 := s1.trans s2
    refine ⟨b, rfl, ⟨_, sq_of hb2⟩, fun D nD => ?_⟩
    refine lc_pairs (K := K) (countV ts) nD (sq_of hb2) (by rw [List.length_map]; omega) (fun x H' R hx e r N => ?_) (fun H3 rows e3 hR nr nin er => ?_)
    · obtain ⟨k, _, rfl⟩ := List.mem_map.mp hx
      exact ⟨rfl, iteT (B := N H') ⟨_, rfl, _, rfl, .inl ⟨rfl, _, sq_of (e _ _ (e02 _ _ ha))⟩, _, rfl, a, ts, k, rfl, rfl, sq_of (e _ _ (e02 _ _ ha)), sz_ok (show 2 ≤ 1000000 by decide), fun t nt => r _ t (same_new nt) nt upd_same⟩⟩
    · have em : rows.map (·.2) = ns.map fun k => (k, cntT ts k) := by
        rw [er, List.map_map]
        rfl
      have hlen : rows.length = ns.length := by
        have := congrArg List.length em
        rw [List.length_map, List.length_map] at this
        exact this
      refine q H3 D rows (e02.trans e3) (Same.free e02 nD) (fun z hz => Same.free e02 (nr z hz)) nin ?_ hR
      rw [em]
      exact counted_is hr2 fun k => by rw [hm, decide_eq_true_eq]
/-! ### the law's own throws -/
def spThrows : Sp := fun vs H Q _ => ∃ a ps dss, vs = [.ref a] ∧ DiceAt H a ps dss ∧ dss.length ≤ 4 ∧ (∀ ds ∈ dss, ds.length ≤ 8) ∧
  ∀ H' p, Same H H' → H p = none → H' p = some (.lst ((throwsL dss).map V.int)) → Q (.ref p) H'
def plusV (f : Int) : V → V
  | .int t => .int (t + f)
  | _ => .non
theorem ok_law_throws (T : Lay K mg) : FnOk P w K mg base CX0 1 T.a_law_throws T.d_law_throws ["_law_dice"] spThrows := by
  refine T.f_law_throws.ok sc_law_throws (fun vs H Q E h => ?_) (fun cdv A outer s H vs Q E hr h => ?_)
  · obtain ⟨a, ps, dss, rfl, _⟩ := h
    rfl
  · obtain ⟨a, ps, dss, rfl, hD, l2, g8, q⟩ := h
    refine ⟨_, (pss_cons (ps_set (i := 1) sc_law_throws.nd rfl (Or.inl rfl) (pe_lst (pa_cons pe_int pa_nil)))
    (pss_cons (ps_for PassesOwn.never rfl (pi_list (pv 0)) (pg_name (i := 2) sc_law_throws.nd rfl (Or.inl rfl)) (pss_cons (ps_set (i := 3) sc_law_throws.nd rfl (Or.inl rfl) (pe_lst pa_nil))
    (pss_cons (ps_for PassesOwn.never rfl (pi_list (pv 2)) (pg_name (i := 4) sc_law_throws.nd rfl (Or.inr rfl)) (pss_one (ps_set (i := 3) sc_law_throws.nd rfl (Or.inl rfl) (pe_op op_cat (pv 3) (pe_lc (own := [("_law_total", 5)]) (g := (gName 5)) rfl sc_law_throws.nd (pi_list (pv 1)) (blkOk_by (N := nm_law_throws) (sc := defScope st_law_throws) (by decide +kernel)) (fun _ _ _ _ _ => (pg_name (i := 5) sc_law_throws.nd rfl (Or.inl rfl))) (fun _ _ _ _ _ => pts_nil) (fun _ _ _ _ _ => (pe_op op_add (pv 5) (pv 4))))))))
    (pss_one (ps_set (i := 1) sc_law_throws.nd rfl (Or.inl rfl) (pv 3))))))
    (pss_one (ps_ret (pv 1))))), ?_⟩
    refine ⟨sz_ok (show 1 ≤ 1000000 by decide), fun r nr => ?_⟩
    have s1 := same_new (o := .lst [.int 0]) nr
    have hr1 : (upd H r (.lst [.int 0])) r = some (.lst ((throwsL []).map V.int)) := upd_same
    generalize upd H r (.lst [.int 0]) = H1 at *
    have hD1 := hD.mono s1
    have hl : ps.length = dss.length := paired_len hD.2
    refine ⟨_, rfl, a, rfl, ⟨_, sq_of hD1.1⟩, for_list (K := K) (a := a) (xs := ps.map V.ref)
      (fun i σ H' => (∃ x y1 y2 y3 y4, σ = [some (.ref a), some (.ref x), y1, y2, y3, y4] ∧ H' x = some (.lst ((throwsL (dss.take i)).map V.int)) ∧ H x = none) ∧ Same H1 H')
      ⟨⟨r, none, none, none, none, rfl, hr1, nr⟩, Same.refl _⟩ (fun i σ H' _ ⟨_, e⟩ => sq_of (e _ _ hD1.1)) ?_ ?_⟩
    · rintro i x σ H2 hi ⟨⟨t, y1, y2, y3, y4, rfl, ht, nt⟩, e2⟩
      rw [List.getElem?_map] at hi
      cases hpi : ps[i]? with
      | none => rw [hpi] at hi; cases hi
      | some p =>
        rw [hpi] at hi
        cases hi
        obtain ⟨ds, hdi, hp⟩ := paired_at hD1.2 hpi
        have hil : i < dss.length := (List.getElem?_eq_some_iff.mp hdi).1
        have h8 := g8 ds (List.mem_of_getElem? hdi)
        have tl : (throwsL (dss.take i)).length ≤ 4096 := throws_top (fun d h => g8 d (List.mem_of_mem_take h)) (by rw [List.length_take]; omega)
        have hp2 := e2 _ _ hp
        generalize hT : throwsL (dss.take i) = T0 at *
        -- more = []
        refine ⟨Nat.zero_le _, fun u nu => ?_⟩
        have s3 := same_new (o := .lst []) nu
        have hu3 : (upd H2 u (.lst [])) u = some (.lst ((more1 T0 []).map V.int)) := upd_same
        have nu1 := Same.free e2 nu
        have ht3 := s3 _ _ ht
        have hp3 := s3 _ _ hp2
        generalize upd H2 u (.lst []) = H3 at *
        refine ⟨_, rfl, p, rfl, ⟨_, sq_of hp3⟩, for_list (K := K) (a := p) (xs := ds.map V.int)
          (fun j σ H' => (∃ m y3 y4, σ = [some (.ref a), some (.ref t), some (.ref p), some (.ref m), y3, y4] ∧ H' m = some (.lst ((more1 T0 (ds.take j)).map V.int)) ∧ H m = none) ∧ Same H3 H')
          ⟨⟨u, _, _, rfl, hu3, Same.free s1 nu1⟩, Same.refl _⟩ (fun j σ H' _ ⟨_, e⟩ => sq_of (e _ _ hp3)) ?_ ?_⟩
        · rintro j y σ H4 hj ⟨⟨m, y3, y4, rfl, hm, nm⟩, e4⟩
          rw [List.getElem?_map] at hj
          cases hdj : ds[j]? with
          | none => rw [hdj] at hj; cases hj
          | some f =>
            rw [hdj] at hj
            cases hj
            have hlt : j < ds.length := (List.getElem?_eq_some_iff.mp hdj).1
            have ml := more1_len T0 (ds.take j)
            have ml2 : (ds.take j).length * T0.length ≤ 8 * 4096 := Nat.mul_le_mul (by rw [List.length_take]; omega) tl
            have ht4 := e4 _ _ ht3
            refine ⟨_, rfl, _, rfl, t, rfl, ⟨_, sq_of ht4⟩, fun D nD => ?_⟩
            refine lc_all (K := K) (plusV f) nD (sq_of ht4) (by rw [List.length_map]; omega) (fun x H' R hx e r N => ?_) (fun H5 e5 hD5 => ?_)
            · obtain ⟨z, _, rfl⟩ := List.mem_map.mp hx
              exact ⟨rfl, iteT (B := N H') ⟨_, rfl, _, rfl, z, f, rfl, rfl, r H' (Same.refl H')⟩⟩
            · have hD6 : H5 D = some (.lst ((T0.map (· + f)).map V.int)) := by
                rw [hD5, List.map_map, List.map_map]
                rfl
              refine ⟨m, D, _, _, rfl, rfl, e5 _ _ hm, hD6, sz_ok (by rw [List.length_map, List.length_map, List.length_map]; omega), fun v nv => ⟨⟨v, _, _, rfl, ?_, ?_⟩, ?_⟩⟩
              · rw [upd_same, take_snoc hdj, more1_snoc, List.map_append]
              · exact Same.free (((s1.trans e2).trans s3).trans (e4.trans e5)) nv
              · exact (e4.trans e5).trans (same_new nv)
        · rintro σ H4 ⟨⟨m, y3, y4, rfl, hm, nm⟩, e4⟩
          rw [List.length_map, List.take_length] at hm
          refine ⟨_, rfl, ⟨m, _, _, _, _, rfl, ?_, nm⟩, (e2.trans s3).trans e4⟩
          rw [hm, take_snoc hdi, throwsL_snoc, hT]
    · rintro σ H2 ⟨⟨t, y1, y2, y3, y4, rfl, ht, nt⟩, e2⟩
      rw [List.length_map, hl, List.take_length] at ht
      exact ⟨_, rfl, q H2 t (s1.trans e2) nt ht⟩
theorem die_is_good (ns : List Int) (k : Int) {tp : Int} (h0 : 0 ≤ tp) (h1 : tp ≤ 99) : good (dieL ns k 8 tp) := by
  obtain ⟨a, b⟩ := dieL_len ns k tp (most := 8) (by decide)
  exact ⟨a, by omega, fun f hf => by
    have := dieL_mem ns (k := k) (most := 8) h0 f hf
    exact ⟨this.1, Int.le_trans this.2 h1⟩⟩
theorem map_ref_inj {l m : List Addr} (h : l.map V.ref = m.map V.ref) : l = m := (List.map_inj_right (fun _ _ z => V.ref.inj z)).mp h
theorem map_int_inj {l m : List Int} (h : l.map V.int = m.map V.int) : l = m := (List.map_inj_right (fun _ _ z => V.int.inj z)).mp h
theorem dice_uniq {H : Hp} {a : Addr} {ps qs : List Addr} {cs ds : List (List Int)} (h : DiceAt H a ps cs) (g : DiceAt H a qs ds) : ps = qs ∧ cs = ds := by
  have e : ps = qs := map_ref_inj (HO.lst.inj (Option.some.inj (h.1.symm.trans g.1)))
  subst e
  exact ⟨rfl, paired_eq h.2 g.2 fun p c d h1 h2 => map_int_inj (HO.lst.inj (Option.some.inj (h1.symm.trans h2)))⟩
theorem isall_dice {K : PySem.W.Frag} {H : Hp} {ps : List Addr} {dss : List (List Int)} (h : Paired (fun p ds => H p = some (.lst (ds.map V.int))) ps dss) : IsAll K H (ps.map V.ref) dss := by
  induction h with
  | nil => exact .nil
  | cons r t ih => exact .cons (is_ints (sq_of r)) ih
theorem is_dice {K : PySem.W.Frag} {H : Hp} {a : Addr} {ps : List Addr} {dss : List (List Int)} (h : DiceAt H a ps dss) : Is K H (.ref a) dss := is_list (sq_of h.1) (isall_dice h.2)
theorem ext_of {α : Type} {l m : List α} (hl : l.length = m.length) (h : ∀ (i : Nat) c, l[i]? = some c → m[i]? = some c) : l = m := by
  apply List.ext_getElem?
  intro i
  cases e : l[i]? with
  | some c => rw [h i c e]
  | none =>
    have := List.getElem?_eq_none_iff.mp e
    rw [List.getElem?_eq_none (by omega)]
theorem cut_first (l : List V) : cutV l none (some 1) = l.take 1 := by
  unfold cutV
  rw [HT.sIx_none, show HT.sIx l.length l.length (some 1) = min 1 l.length from HT.sIx_nat _ _ 1]
  show (l.drop 0).take (min 1 l.length - 0) = l.take 1
  rw [List.drop_zero, Nat.sub_zero]
  cases l with
  | nil => rfl
  | cons x r => rw [List.length_cons, Nat.min_eq_left (by omega)]
theorem rise_B : ∀ {l : List Int}, l.Pairwise (· < ·) → riseB l = true
  | [], _ => rfl
  | [x], _ => rfl
  | x :: y :: r, h => by
    obtain ⟨h1, h2⟩ := List.pairwise_cons.mp h
    show (decide (x < y) && riseB (y :: r)) = true
    rw [rise_B h2, decide_eq_true (h1 y List.mem_cons_self)]
    rfl
theorem rows_thing {H : Hp} {c : Addr} {rows : List (Addr × Int × Int)} (hR : RowsAt H c rows) (hl : rows.length ≤ 100000) : CThing H (.ref c) where
  kd := ⟨_, .lst hR.1⟩
  all := fun xs hx => by
    rw [lstOf_ref hR.1] at hx
    have e := Option.some.inj hx
    rw [← e]
    refine ⟨by rw [List.length_map]; exact hl, fun x hx => ?_⟩
    obtain ⟨z, hz, rfl⟩ := List.mem_map.mp hx
    have h := hR.2 z hz
    refine ⟨⟨_, .tup h⟩, fun xs hx x hx2 => ?_⟩
    rw [tupOf_ref h] at hx
    have e := Option.some.inj hx
    rw [← e] at hx2
    rcases List.mem_cons.mp hx2 with q | q
    · rw [q]
      exact ⟨_, .int _⟩
    · rw [List.mem_singleton.mp q]
      exact ⟨_, .int _⟩
theorem rows_counts {H : Hp} {c : Addr} {rows : List (Addr × Int × Int)} {T : List Int} (hR : RowsAt H c rows) (hI : IsCounts (cntT T) (rows.map (·.2))) (hb : ∀ t ∈ T, 0 ≤ t ∧ t ≤ 198) : countsV H ((T.length : Nat) : Int) (.ref c) = true := by
  unfold countsV
  rw [lstOf_ref hR.1]
  show countsB H _ (rows.map fun z => V.ref z.1) = true
  unfold countsB
  have pos := counts_pos hI
  have e1 : (rows.map fun z => V.ref z.1).map (fstV H) = (rows.map (·.2)).map (·.1) := by
    rw [List.map_map, List.map_map]
    refine List.map_congr_left fun y hy => ?_
    show fstV H (.ref y.1) = y.2.1
    unfold fstV
    rw [tupOf_ref (hR.2 y hy)]
  have e2 : (rows.map fun z => V.ref z.1).map (sndV H) = (rows.map (·.2)).map (·.2) := by
    rw [List.map_map, List.map_map]
    refine List.map_congr_left fun y hy => ?_
    show sndV H (.ref y.1) = y.2.2
    unfold sndV
    rw [tupOf_ref (hR.2 y hy)]
  have a1 : (rows.map fun z => V.ref z.1).all (rowV H) = true := by
    refine List.all_eq_true.mpr fun x hx => ?_
    obtain ⟨y, hy, rfl⟩ := List.mem_map.mp hx
    show (match tupOf H (.ref y.1) with
      | some xs => rowB xs
      | none => false) = true
    rw [tupOf_ref (hR.2 y hy)]
    have hm : y.2 ∈ rows.map (·.2) := List.mem_map.mpr ⟨y, hy, rfl⟩
    have h1 := pos y.2 hm
    have h2 := hb _ (counts_thrown hI hm)
    show (decide (0 ≤ y.2.1) && decide (y.2.1 ≤ 198) && decide (1 ≤ y.2.2)) = true
    rw [decide_eq_true h2.1, decide_eq_true h2.2, decide_eq_true (show 1 ≤ y.2.2 by omega)]
    rfl
  rw [a1, e1, e2, counts_all hI, rise_B (List.pairwise_map.mpr hI.rise), decide_eq_true rfl]
  rfl
theorem low_is {H : Hp} {c : Addr} {z : Addr × Int × Int} {r : List (Addr × Int × Int)} (hR : RowsAt H c (z :: r)) : lowV H (.ref c) = z.2.1 := by
  unfold lowV
  rw [lstOf_ref hR.1]
  show fstV H (.ref z.1) = z.2.1
  unfold fstV
  rw [tupOf_ref (hR.2 z List.mem_cons_self)]
theorem rows_few {out : List (Int × Int)} {T : List Int} (h : IsCounts (cntT T) out) : out.length ≤ T.length := by
  have h1 := sumV_len (counts_pos h)
  have h2 : sumV out = ((T.length : Nat) : Int) := counts_all h
  omega
/-- good counts, good numbers: all pairs are told -/
theorem pairs_good {C N : Addr} {H : Hp} {c : Addr} {z0 : Addr × Int × Int} {rr : List (Addr × Int × Int)} {T : List Int} {M L : Nat} {l : Int} {Q : VK} {E : XK} (hR : RowsAt H c (z0 :: rr)) (hI : IsCounts (cntT T) ((z0 :: rr).map (·.2))) (hT : T.length = M * L) (hb : ∀ t ∈ T, 0 ≤ t ∧ t ≤ 198)
    (hM : 1 ≤ M ∧ M ≤ 6) (hL : 1 ≤ L ∧ L ≤ 6) (h0 : 0 ≤ l) (hl : l ≤ z0.2.1) (r : ∀ H' p ps, Same H H' → H p = none → PairsAt H' p ps → ps.length ≤ 1024 → AllPairs (cntT T) M L l (ps.map (·.2)) → Q (.ref p) H') :
    spPairsOf C N [.ref c, .int (M : Int), .int (L : Int), .int l] H Q E := by
  have h36 : M * L ≤ 6 * 6 := Nat.mul_le_mul hM.2 hL.2
  have few := rows_few hI
  rw [List.length_map] at few
  have mM : manyB (.int (M : Int)) = true := by
    show (decide (1 ≤ (M : Int)) && decide ((M : Int) ≤ 6)) = true
    rw [decide_eq_true (show 1 ≤ (M : Int) by omega), decide_eq_true (show (M : Int) ≤ 6 by omega)]
    rfl
  have mL : manyB (.int (L : Int)) = true := by
    show (decide (1 ≤ (L : Int)) && decide ((L : Int) ≤ 6)) = true
    rw [decide_eq_true (show 1 ≤ (L : Int) by omega), decide_eq_true (show (L : Int) ≤ 6 by omega)]
    rfl
  have hc : countsV H ((M : Int) * (L : Int)) (.ref c) = true := by
    have := rows_counts hR hI hb
    rw [hT, Int.natCast_mul] at this
    exact this
  refine ⟨.ref c, .int (M : Int), .int (L : Int), .int l, "int", "int", "int", rfl, .int _, .int _, .int _, rows_thing hR (by omega), fun h => ?_, fun m1 m2 e1 e2 _ _ => ?_⟩
  · rcases h with h | h
    · rw [mM] at h
      cases h
    · rw [mL] at h
      cases h
  · have e1 : (M : Int) = m1 := V.int.inj e1
    have e2 : (L : Int) = m2 := V.int.inj e2
    subst e1
    subst e2
    refine ⟨fun h => ?_, fun _ h => ?_, fun _ _ => ⟨c, z0 :: rr, M, L, l, cntT T, rfl, hR, hI, rfl, rfl, rfl, r⟩⟩
    · rw [hc] at h
      cases h
    · have : leastB (lowV H (.ref c)) (.int l) = true := by
        rw [low_is hR]
        show (decide (0 ≤ l) && decide (l ≤ z0.2.1)) = true
        rw [decide_eq_true h0, decide_eq_true hl]
        rfl
      rw [this] at h
      cases h
theorem throws_two (d1 d2 : List Int) : (throwsL [d1, d2]).length = d1.length * d2.length ∧ ∀ t ∈ throwsL [d1, d2], ∃ x ∈ d1, ∃ y ∈ d2, t = x + y := by
  have e : throwsL [d1, d2] = more1 d1 d2 := by
    have := throws_one d1
    show more1 (throwsL [d1]) d2 = more1 d1 d2
    rw [this]
  rw [e, more1_len, Nat.mul_comm]
  refine ⟨rfl, fun t ht => ?_⟩
  unfold more1 at ht
  obtain ⟨y, hy, ht⟩ := List.mem_flatMap.mp ht
  obtain ⟨x, hx, rfl⟩ := List.mem_map.mp ht
  exact ⟨x, hx, y, hy, rfl⟩
/-! ### dice of a pair -/
def pairDieV (H : Hp) (v : V) : Bool := match lstOf H v with
  | some xs => dieB xs && decide (xs.length ≤ 6)
  | none => false
def spNeedPairDie (C : Addr) : Sp := fun vs H Q E => ∃ v, vs = [v] ∧ Thing H v ∧ (pairDieV H v = true → ∀ H', Same H H' → Q .non H') ∧ (pairDieV H v = false → ∀ H', Same H H' → E (.ref C) none H')
theorem ok_need_pair_die (T : Lay K mg) : FnOk P w K mg base (L2.CX P w) 5 T.a_need_pair_die T.d_need_pair_die ["thing"] (spNeedPairDie T.a_BadDie) := by
  refine T.f_need_pair_die.okX sc_need_pair_die (fun vs H Q E h => ?_) (fun cdv A outer s H vs Q E hr h => ?_)
  · obtain ⟨v, rfl, _⟩ := h
    rfl
  · obtain ⟨v, rfl, th, q1, q2⟩ := h
    have tk : Takes (cxOf (L2.CX P w) P w K mg base nm_need_pair_die "need_pair_die" (defScope st_need_pair_die) T.a_need_pair_die cdv A outer s H E) (fun cls d _ H => E cls d H) := takes_of rfl rfl rfl rfl
    refine ⟨_, (pss_cons (ps_expr (pe_call (ok_need_die T) (hr.mono (by decide)) (by rfl) T.g_need_die T.f_need_die.kp T.b_need_die .nil (passes_call tk fun _ _ _ _ h => h) (pa_cons (pv 0) pa_nil)))
    (pss_one (ps_if (pt_cmpR op_gt (pe_callB call_len_seq (by rfl) T.n_len PySem.boot_len (pa_cons (pv 0) pa_nil)) (pe_glob (v := .int 6) rfl T.c_MOST_PAIR_FACES ⟨_, rfl⟩) (nomark _)) (pss_one (ps_raise rfl (takes_of rfl rfl rfl rfl) (SkE.pmk_own1 PySem.F.excBase_ValueError T.x_BadDie.x T.g_BadDie T.x_BadDie.k (raises_own T.x_BadDie.b T.x_BadDie.t) rfl (pe_joined (PJ.cons pe_str (PJ.cons (pe_fmt (pe_glob (v := .int 6) rfl T.c_MOST_PAIR_FACES ⟨_, rfl⟩)) (PJ.cons pe_str PJ.nil))))))) pss_nil))), ?_⟩
    refine ⟨_, rfl, v, rfl, th, fun hd H1 e1 => ?_, fun hd H1 e1 => q2 ?_ H1 e1⟩
    · unfold dieV at hd
      cases hl : lstOf H v with
      | none => rw [hl] at hd; cases hd
      | some xs =>
        rw [hl] at hd
        have hd : dieB xs = true := hd
        obtain ⟨a, rfl, ha⟩ := lstOf_some hl
        have e : pairDieV H (.ref a) = decide (xs.length ≤ 6) := by
          unfold pairDieV
          rw [hl]
          show (dieB xs && decide (xs.length ≤ 6)) = _
          rw [hd, Bool.true_and]
        refine ⟨_, rfl, a, xs, rfl, .inl (sq_of (e1 _ _ ha)), _, 6, rfl, rfl, _, rfl, iteD (fun c => ?_) (fun c => ?_)⟩
        · refine ⟨_, rfl, by decide +kernel, .inr ⟨6, rfl, by decide +kernel, _, rfl, by decide +kernel, _, rfl, by decide +kernel, q2 ?_ H1 e1⟩⟩
          rw [e]
          exact decide_eq_false (by omega)
        · refine q1 ?_ H1 e1
          rw [e]
          exact decide_eq_true (by omega)
    · unfold dieV at hd
      unfold pairDieV
      cases hl : lstOf H v with
      | none => rfl
      | some xs =>
        rw [hl] at hd
        have hd : dieB xs = false := hd
        show (dieB xs && decide (xs.length ≤ 6)) = false
        rw [hd, Bool.false_and]
def spAlike (D C N : Addr) : Sp := fun vs H Q E => ∃ v u, vs = [v, u] ∧ Thing H v ∧ Thing H u ∧ (pairDieV H v = false ∨ pairDieV H u = false → ∀ H', Same H H' → E (.ref D) none H') ∧
  (pairDieV H v = true → pairDieV H u = true → ∃ (a c : Addr) (ds es : List Int), v = .ref a ∧ u = .ref c ∧ H a = some (.lst (ds.map V.int)) ∧ H c = some (.lst (es.map V.int)) ∧ good ds ∧ good es ∧ ds.length ≤ 6 ∧ es.length ≤ 6 ∧ ∀ (l : Int) H' p ps, l ∈ ds → (∀ x ∈ ds, l ≤ x) → Same H H' → H p = none → PairsAt H' p ps → ps.length ≤ 1024 → AllPairs (cntT (throwsL [ds, es])) ds.length es.length l (ps.map (·.2)) → Q (.ref p) H')
theorem ok_alike (T : Lay K mg) : FnOk P w K mg base (L2.CX P w) 6 T.a_alike T.d_alike ["one", "other"] (spAlike T.a_BadDie T.a_BadCounts T.a_BadNumber) := by
  refine T.f_alike.okX sc_alike (fun vs H Q E h => ?_) (fun cdv A outer s H vs Q E hr h => ?_)
  · obtain ⟨v, u, rfl, _⟩ := h
    rfl
  · obtain ⟨v, u, rfl, tv, tu, q0, q1⟩ := h
    have tk : Takes (cxOf (L2.CX P w) P w K mg base nm_alike "alike" (defScope st_alike) T.a_alike cdv A outer s H E) (fun cls d _ H => E cls d H) := takes_of rfl rfl rfl rfl
    refine ⟨_, (pss_cons (ps_expr (pe_call (ok_need_pair_die T) (hr.mono (by decide)) (by rfl) T.g_need_pair_die T.f_need_pair_die.kp T.b_need_pair_die .nil (passes_call tk fun _ _ _ _ h => h) (pa_cons (pv 0) pa_nil)))
    (pss_cons (ps_expr (pe_call (ok_need_pair_die T) (hr.mono (by decide)) (by rfl) T.g_need_pair_die T.f_need_pair_die.kp T.b_need_pair_die .nil (passes_call tk fun _ _ _ _ h => h) (pa_cons (pv 1) pa_nil)))
    (pss_one (ps_ret (pe_call (ok_pairs_of T) (hr.mono (by decide)) (by rfl) T.g_pairs_of T.f_pairs_of.kp T.b_pairs_of .nil (passes_call tk fun _ _ _ _ h => h) (pa_cons (pe_call (ok_counts T) (hr.mono (by decide)) (by rfl) T.g_counts T.f_counts.kp T.b_counts .nil (passes_call tk fun _ _ _ _ h => h) (pa_cons (pe_lst (pa_cons (pv 0) (pa_cons (pv 1) pa_nil))) pa_nil)) (pa_cons (pe_callB call_len_seq (by rfl) T.n_len PySem.boot_len (pa_cons (pv 0) pa_nil)) (pa_cons (pe_callB call_len_seq (by rfl) T.n_len PySem.boot_len (pa_cons (pv 1) pa_nil)) (pa_cons (pe_callB (cr_min rfl) (by rfl) T.n_min (by decide +kernel) (pa_cons (pv 0) pa_nil)) pa_nil))))))))), ?_⟩
    refine ⟨_, rfl, v, rfl, tv, fun h1 H1 e1 => ?_, fun h1 H1 e1 => q0 (.inl h1) H1 e1⟩
    have same : pairDieV H1 u = pairDieV H u := by
      obtain ⟨n, k⟩ := tu.kd
      unfold pairDieV
      rw [lstOf_same k e1]
    refine ⟨_, rfl, u, rfl, tu.mono e1, fun h2 H2 e2 => ?_, fun h2 H2 e2 => q0 (.inr (by rw [← same]; exact h2)) H2 (e1.trans e2)⟩
    rw [same] at h2
    obtain ⟨a, c, ds, es, rfl, rfl, ha, hc, g1, g2, l1, l2, q⟩ := q1 h1 h2
    have e02 := e1.trans e2
    refine ⟨_, rfl, _, rfl, sz_ok (show 2 ≤ 1000000 by decide), ?_⟩
    intro x nx
    have s3 := same_new (H := H2) (o := (.lst [.ref a, .ref c])) nx
    have hx := upd_same (H := H2) (a := x) (o := (.lst [.ref a, .ref c]))
    generalize upd H2 x (.lst [.ref a, .ref c]) = H3 at *
    have e03 := e02.trans s3
    have hD : DiceAt H3 x [a, c] [ds, es] := ⟨hx, .cons (e03 _ _ ha) (.cons (e03 _ _ hc) .nil)⟩
    have gg : ∀ d ∈ [ds, es], good d := fun d hd => by
      rcases List.mem_cons.mp hd with h | h
      · rw [h]
        exact g1
      · rw [List.mem_singleton.mp h]
        exact g2
    refine ⟨.ref x, rfl, dthing_dice hD, fun a' ps dss ev hD' b1 b2 hg H4 p rows e4 np nrs nin hI hR hlen => ?_, fun _ => ⟨x, _, _, rfl, hD, by show 1 ≤ 2; decide, by show 2 ≤ 4; decide, gg⟩, fun z => ?_⟩
    · cases ev
      obtain ⟨_, e2⟩ := dice_uniq hD hD'
      subst e2
      rw [← cnt_throws] at hI
      obtain ⟨t1, t2⟩ := throws_two ds es
      have e04 := e03.trans e4
      have b3 : 1 ≤ ds.length := g1.1
      have b4 : 1 ≤ es.length := g2.1
      have hmul1 : 1 * 1 ≤ ds.length * es.length := Nat.mul_le_mul b3 b4
      have hds : 0 < ds.length := b3
      have hb : ∀ t ∈ throwsL [ds, es], 0 ≤ t ∧ t ≤ 198 := fun t ht => by
        obtain ⟨x, hx, y, hy, rfl⟩ := t2 t ht
        have := g1.2.2 x hx
        have := g2.2.2 y hy
        omega
      obtain ⟨z0, rr, rfl⟩ : ∃ z0 rr, rows = z0 :: rr := by
        cases rows with
        | nil =>
          have := counts_all hI
          have h0 : (0 : Int) = (((throwsL [ds, es]).length : Nat) : Int) := this
          omega
        | cons z r => exact ⟨z, r, rfl⟩
      refine ⟨_, rfl, a, _, rfl, .inl (sq_of (e04 _ _ ha)), _, rfl, c, _, rfl, .inl (sq_of (e04 _ _ hc)), _, rfl, a, ds, rfl, sq_of (e04 _ _ ha), hds, fun mn hm hml => ?_⟩
      dsimp only [tNil]
      rw [List.length_map, List.length_map]
      have hm0 := (g1.2.2 mn hm).1
      refine pairs_good hR hI t1 hb ⟨b3, l1⟩ ⟨b4, l2⟩ hm0 ?_ fun H5 p5 ps5 e5 n5 P5 l5 A5 => q mn H5 p5 ps5 hm hml (e04.trans e5) (Same.free e04 n5) P5 l5 A5
      obtain ⟨x, hx, y, hy, e⟩ := t2 z0.2.1 (counts_thrown hI (p := z0.2) List.mem_cons_self)
      have := hml x hx
      have := g2.2.2 y hy
      omega
    · have := diceV_dice (m := 4) hD (by show 1 ≤ 2; decide) (by show 2 ≤ 4; decide) gg
      have h3 : diceV H3 4 (.ref x) = true := this
      rw [h3] at z
      cases z
end
end My

namespace My
open PySem PySem.Spec PyProof.Rows L2
open PySem.W (Datum Tup)
section
variable {P : Program} {w : World} {K : PySem.W.Frag} {mg : Str → Option Value} {base : Heap}
/-! ### what is told is right -/
theorem rows_is {K : PySem.W.Frag} {H : Hp} {p : Addr} {rows : List (Addr × Int × Int)} (h : RowsAt H p rows) : Is K H (.ref p) (rows.map (·.2)) :=
  is_list (sq_of h.1) (IsAll.map (fun z => V.ref z.1) (fun z => z.2) rows fun z hz => is_pair (st_of (h.2 z hz)) (is_int _) (is_int _))
/-! ### moved dice; pairs as data -/
theorem hu65 {k : Nat} {A : Around} (r : Room k A) : A.units + 65 < cLine := by
  have := r.un
  omega
theorem cntT_perm {d d' : List Int} (h : d.Perm d') (s : Int) : cntT d s = cntT d' s := by
  unfold cntT
  rw [h.count_eq]
theorem conv_moved (g : Int → Int) (c s : Int) : ∀ e : List Int, conv g (e.map (· - c)) s = conv (fun u => g (u + c)) e s
  | [] => rfl
  | f :: e => by
    rw [List.map_cons, conv_cons, conv_cons, conv_moved g c s e]
    have : s - (f - c) = s - f + c := by omega
    show g (s - (f - c)) + _ = g (s - f + c) + _
    rw [this]
theorem cnt_moved {d1 d2 one other : List Int} {c : Int} (h1 : one.Perm (d1.map (· + c))) (h2 : other.Perm (d2.map (· - c))) : cntF [one, other] = cntF [d1, d2] := by
  rw [cnt_two, cnt_two]
  funext s
  rw [conv_perm _ h2, conv_moved]
  congr 1
  funext u
  rw [cntT_perm h1]
  have e : d1.map (· + c) = d1.map (c + ·) := List.map_congr_left fun x _ => Int.add_comm x c
  rw [e, cntT_add]
  congr 1
  omega
theorem pairs_are {K : PySem.W.Frag} {H : Hp} : ∀ {ps : List (Addr × Pr)}, (∀ z ∈ ps, PairAt H z.1 z.2) → IsAll K H (ps.map fun z => V.ref z.1) (ps.map fun z => dpT z.2)
  | [], _ => .nil
  | z :: r, h => .cons (pair_is (h z List.mem_cons_self)) (pairs_are fun y hy => h y (List.mem_cons_of_mem _ hy))
theorem lay_ints : ∀ l : List Int, PyData.canLayAll0 (l.map Datum.toD) = true
  | [] => rfl
  | x :: l => by
    rw [List.map_cons, PyData.canLayAll0, lay_ints l]
    rfl
theorem lay_pair (p : Pr) : PyData.canLay0 (Datum.toD (dpT p)) = true := by
  show PyData.canLay0 (.tuple [.tuple (p.1.map Datum.toD), .tuple (p.2.map Datum.toD)]) = true
  rw [PyData.canLay0, PyData.canLayAll0, PyData.canLayAll0, PyData.canLayAll0, PyData.canLay0, PyData.canLay0, lay_ints, lay_ints]
  rfl
theorem shaped_pair (p : Pr) : SeqAt.shaped (Datum.toD (dpT p)) = true := by
  unfold SeqAt.shaped
  rw [lay_pair, Bool.true_and]
  exact decide_eq_true (Nat.le_trans (Datum.depth_le (dpT p)) (by decide))
theorem lay_pairs : ∀ ps : List (Addr × Pr), PyData.canLayAll0 ((ps.map fun z => dpT z.2).map Datum.toD) = true
  | [] => rfl
  | z :: ps => by
    rw [List.map_cons, List.map_cons, PyData.canLayAll0, lay_pair, lay_pairs ps]
    rfl
theorem shaped_pairs (ps : List (Addr × Pr)) : SeqAt.shaped (.list ((ps.map fun z => dpT z.2).map Datum.toD)) = true := by
  unfold SeqAt.shaped
  rw [PyData.canLay0, lay_pairs, Bool.true_and]
  exact decide_eq_true (Nat.le_trans (Datum.depth_le (α := List (Tup Int × Tup Int)) (ps.map fun z => dpT z.2)) (by decide))
/-! ### pairs, as they are told -/
theorem rising_perm : ∀ {l m : List Int}, l.Pairwise (· ≤ ·) → m.Pairwise (· ≤ ·) → l.Perm m → l = m
  | [], m, _, _, h => h.nil_eq
  | x :: l, [], _, _, h => absurd h.length_eq (by simp)
  | x :: l, y :: m, hl, hm, h => by
    obtain ⟨l1, l2⟩ := List.pairwise_cons.mp hl
    obtain ⟨m1, m2⟩ := List.pairwise_cons.mp hm
    have e : x = y := by
      have a : x ≤ y := by
        rcases List.mem_cons.mp (h.mem_iff.mpr List.mem_cons_self) with e | z
        · omega
        · exact l1 y z
      have b : y ≤ x := by
        rcases List.mem_cons.mp (h.mem_iff.mp List.mem_cons_self) with e | z
        · omega
        · exact m1 x z
      omega
    subst e
    rw [rising_perm l2 m2 ((List.perm_cons x).mp h)]
theorem pairs_un {ps : List (Addr × Pr)} (h : (ps.map (·.2)).Pairwise fun p q => lxP p q = true) : (ps.map (·.2)).Nodup := h.imp fun {p q} lt e => by
  rw [e, lxP_irr] at lt
  cases lt
/-- in the order of pairs there is but one way -/
theorem sorted_same {ps ms : List (Addr × Pr)} (h : (ps.map (·.2)).Pairwise fun p q => lxP p q = true) (pm : ms.Perm ps) (hs : ms.Pairwise fun x y => lxP y.2 x.2 = false) : ms.map (·.2) = ps.map (·.2) :=
  rise_uniq lxP_irr lxP_trans (strict_of ((pm.map _).nodup_iff.mpr (pairs_un h)) (List.pairwise_map.mpr hs)) h fun x => (pm.map _).mem_iff
theorem pairs_dp (ps : List (Addr × Pr)) : ps.map (fun z => dpT z.2) = (ps.map (·.2)).map dpT := by
  rw [List.map_map]
  rfl
theorem head_least {one : List Int} {l : Int} (hin : l ∈ one) (hle : ∀ x ∈ one, l ≤ x) (hr : Rising one) : one.head? = some l := by
  cases one with
  | nil => cases hin
  | cons x r =>
    have h1 := hle x List.mem_cons_self
    rcases List.mem_cons.mp hin with c | c
    · rw [c]
      rfl
    · have := (List.pairwise_cons.mp hr).1 l c
      have e : x = l := by omega
      rw [e]
      rfl
theorem least_head {one : List Int} {l : Int} (h : one.head? = some l) (hr : Rising one) : l ∈ one ∧ ∀ x ∈ one, l ≤ x := by
  cases one with
  | nil => cases h
  | cons y r =>
    have e : y = l := Option.some.inj h
    rw [← e]
    refine ⟨List.mem_cons_self, fun x hx => ?_⟩
    rcases List.mem_cons.mp hx with c | hx
    · omega
    · exact (List.pairwise_cons.mp hr).1 x hx
/-- the dice themselves, rising -/
theorem sorted_pair {ds es one other : List Int} {l : Int} (hm : l ∈ ds) (hml : ∀ x ∈ ds, l ≤ x) (z : ∀ f ∈ es, 0 ≤ f) (p1 : one.Perm ds) (p2 : other.Perm es) (r1 : Rising one) (r2 : Rising other) : IsPair (cntT (throwsL [ds, es])) ds.length es.length l (one, other) where
  one := p1.length_eq
  other := p2.length_eq
  r1 := r1
  r2 := r2
  head := head_least (p1.mem_iff.mpr hm) (fun x hx => hml x (p1.mem_iff.mp hx)) r1
  zero := fun f hf => z f (p2.mem_iff.mp hf)
  cnt := by
    rw [cnt_throws, cnt_two, cnt_two, conv_perm _ p2]
    congr 1
    funext s
    exact cntT_perm p1 s
theorem in_pairs {ps : List (Addr × Pr)} {p : Pr} (h : p ∈ ps.map (·.2)) : (((ps.map fun z => dpT z.2).map Datum.toD).any fun z => PyData.eqv z (Datum.toD (dpT p))) = true := by
  obtain ⟨z, hz, e⟩ := List.mem_map.mp h
  refine List.any_eq_true.mpr ⟨Datum.toD (dpT z.2), List.mem_map.mpr ⟨dpT z.2, List.mem_map.mpr ⟨z, hz, rfl⟩, rfl⟩, ?_⟩
  rw [Datum.eqv, e]
  exact decide_eq_true rfl
/-! ### all that is told is good -/
def spGood9 : Sp := fun vs H Q _ => ∃ (p a c : Addr) (ds es : List Int) (ps : List (Addr × Pr)) (l : Int), vs = [.ref p, .ref a, .ref c] ∧ H a = some (.lst (ds.map V.int)) ∧ H c = some (.lst (es.map V.int)) ∧ good ds ∧ good es ∧ ds.length ≤ 6 ∧ es.length ≤ 6 ∧
  PairsAt H p ps ∧ ps.length ≤ 1024 ∧ l ∈ ds ∧ (∀ x ∈ ds, l ≤ x) ∧ AllPairs (cntT (throwsL [ds, es])) ds.length es.length l (ps.map (·.2)) ∧ ∀ H', Same H H' → Q (.bl true) H'
theorem ok_law_good (T : Lay K mg) : FnOk P w K mg base CX0 4 T.a_law_good T.d_law_good ["_law_found", "_law_one", "_law_other"] spGood9 := by
  refine T.f_law_good.ok sc_law_good (fun vs H Q E h => ?_) (fun cdv A outer s H vs Q E hr h => ?_)
  · obtain ⟨_, _, _, _, _, _, _, rfl, _⟩ := h
    rfl
  · obtain ⟨p, a, c, ds, es, ps, l, rfl, ha, hc, g1, g2, l1, l2, hP, h1024, hm, hml, aP, q⟩ := h
    refine ⟨_, (pss_cons (ps_set (i := 3) sc_law_good.nd rfl (Or.inl rfl) (pe_call (ok_law_counted T) (hr.mono (by decide)) (by rfl) T.g_law_counted T.f_law_counted.kp T.b_law_counted .nil pass0 (pa_cons (pe_call (ok_law_throws T) (hr.mono (by decide)) (by rfl) T.g_law_throws T.f_law_throws.kp T.b_law_throws .nil pass0 (pa_cons (pe_lst (pa_cons (pv 1) (pa_cons (pv 2) pa_nil))) pa_nil)) pa_nil)))
    (pss_cons (ps_if (PW.pt (pw_or (pt_not (pt_val (pe_callB call_isi (by rfl) T.n_isinstance (by decide +kernel) (pa_cons (pv 0) (pa_cons (pe_bltn (v := .ty "list") (by rfl) T.n_list (by decide +kernel) rfl) pa_nil))))) (pw_or1 (pt_cmpR (op_neP hr.units) (pv 0) (pe_callB (cr_sortedP rfl hr.units) (by rfl) T.n_sorted (by decide +kernel) (pa_cons (pe_callTy (cr_setP rfl hr.units) (r := rSetP K P w) (by rfl) T.n_set (by decide +kernel) (pa_cons (pv 0) pa_nil)) pa_nil)) (nomark _))))) (pss_one (ps_ret pe_bl)) pss_nil)
    (pss_cons (ps_if (pt_cmpR (op_notInD (hu65 hr)) (pe_tup (pa_cons (pe_callTy call_tuple_of (by rfl) T.n_tuple (by decide +kernel) (pa_cons (pe_callB cr_sortedI (by rfl) T.n_sorted (by decide +kernel) (pa_cons (pv 1) pa_nil)) pa_nil)) (pa_cons (pe_callTy call_tuple_of (by rfl) T.n_tuple (by decide +kernel) (pa_cons (pe_callB cr_sortedI (by rfl) T.n_sorted (by decide +kernel) (pa_cons (pv 2) pa_nil)) pa_nil)) pa_nil))) (pv 0) (by rfl)) (pss_one (ps_ret pe_bl)) pss_nil)
    (pss_cons (ps_for PassesOwn.never rfl (pi_list (pv 0)) (pg_tup rfl (pgs_cons (pg_name (i := 4) sc_law_good.nd rfl (Or.inl rfl)) (pgs_cons (pg_name (i := 5) sc_law_good.nd rfl (Or.inl rfl)) pgs_nil))) (pss_cons (ps_if (PW.pt (pw_or (pt_cmpR op_ne (pe_callB call_len_seq (by rfl) T.n_len PySem.boot_len (pa_cons (pv 4) pa_nil)) (pe_callB call_len_seq (by rfl) T.n_len PySem.boot_len (pa_cons (pv 1) pa_nil)) (nomark _)) (pw_or (pt_cmpR op_ne (pe_callB call_len_seq (by rfl) T.n_len PySem.boot_len (pa_cons (pv 5) pa_nil)) (pe_callB call_len_seq (by rfl) T.n_len PySem.boot_len (pa_cons (pv 2) pa_nil)) (nomark _)) (pw_or1 (pt_cmpR op_ne (pe_callB (cr_minT rfl) (by rfl) T.n_min (by decide +kernel) (pa_cons (pv 4) pa_nil)) (pe_callB (cr_min rfl) (by rfl) T.n_min (by decide +kernel) (pa_cons (pv 1) pa_nil)) (nomark _)))))) (pss_one (ps_ret pe_bl)) pss_nil)
    (pss_cons (ps_if (PW.pt (pw_or (pt_cmpR (op_neP hr.units) (pe_callTy call_list_of (by rfl) T.n_list (by decide +kernel) (pa_cons (pv 4) pa_nil)) (pe_callB cr_sortedTI (by rfl) T.n_sorted (by decide +kernel) (pa_cons (pv 4) pa_nil)) (nomark _)) (pw_or1 (pt_cmpR (op_neP hr.units) (pe_callTy call_list_of (by rfl) T.n_list (by decide +kernel) (pa_cons (pv 5) pa_nil)) (pe_callB cr_sortedTI (by rfl) T.n_sorted (by decide +kernel) (pa_cons (pv 5) pa_nil)) (nomark _))))) (pss_one (ps_ret pe_bl)) pss_nil)
    (pss_one (ps_if (pt_cmpR (op_neP hr.units) (pe_call (ok_law_counted T) (hr.mono (by decide)) (by rfl) T.g_law_counted T.f_law_counted.kp T.b_law_counted .nil pass0 (pa_cons (pe_call (ok_law_throws T) (hr.mono (by decide)) (by rfl) T.g_law_throws T.f_law_throws.kp T.b_law_throws .nil pass0 (pa_cons (pe_lst (pa_cons (pe_callTy call_list_of (by rfl) T.n_list (by decide +kernel) (pa_cons (pv 4) pa_nil)) (pa_cons (pe_callTy call_list_of (by rfl) T.n_list (by decide +kernel) (pa_cons (pv 5) pa_nil)) pa_nil))) pa_nil)) pa_nil)) (pv 3) (nomark _)) (pss_one (ps_ret pe_bl)) pss_nil)))))
    (pss_one (ps_ret pe_bl)))))), ?_⟩
    have b1 := g1.1
    have b2 := g2.1
    have h36 : ds.length * es.length ≤ 6 * 6 := Nat.mul_le_mul l1 l2
    have t1 := (throws_two ds es).1
    refine ⟨_, rfl, _, rfl, sz_ok (show 2 ≤ 1000000 by decide), ?_⟩
    intro x nx
    have s1 := same_new (H := H) (o := (.lst [.ref a, .ref c])) nx
    have hx := upd_same (H := H) (a := x) (o := (.lst [.ref a, .ref c]))
    generalize upd H x (.lst [.ref a, .ref c]) = H1 at *
    refine ⟨x, [a, c], [ds, es], rfl, ⟨hx, .cons (s1 _ _ ha) (.cons (s1 _ _ hc) .nil)⟩, by show 2 ≤ 4; decide, List.forall_mem_cons.mpr ⟨by omega, List.forall_mem_cons.mpr ⟨by omega, List.forall_mem_nil _⟩⟩, fun H2 x2 e2 nx2 hx2 => ?_⟩
    refine ⟨x2, throwsL [ds, es], rfl, hx2, by omega, fun H3 k rows e3 nk nrs nin hI hR => ?_⟩
    have e03 := (s1.trans e2).trans e3
    have hP3 : PairsAt H3 p ps := ⟨e03 _ _ hP.1, fun z hz => (hP.2 z hz).keeps fun b ys y => e03 _ _ y⟩
    have kp := Kd.lst hP3.1
    refine ⟨_, rfl, .ref p, _, _, _, _, rfl, .ty _, kp.ty, kit_ty (kp.kListS (lstOf_ref hP3.1)), _, rfl, iteF ?_⟩
    refine ⟨_, rfl, _, rfl, p, ps, rfl, sq_of hP3.1, hP3.2, pairs_un aP.rise, h1024, fun d L nd pm => ?_⟩
    have s4 := same_new (o := SetPO P w d L) nd
    have hd4 := upd_same (H := H3) (a := d) (o := SetPO P w d L)
    have hP4 : PairsAt (upd H3 d (SetPO P w d L)) p ps := ⟨s4 _ _ hP3.1, fun z hz => (hP3.2 z hz).keeps fun b ys y => s4 _ _ y⟩
    generalize upd H3 d (SetPO P w d L) = H4 at *
    refine ⟨d, L, rfl, hd4, fun k hk => hP4.2 k (pm.mem_iff.mp hk), by rw [pm.length_eq]; exact h1024, fun ms r pm2 srt nr => ?_⟩
    have s5 := same_new (o := .lst (ms.map fun x => V.ref x.1)) nr
    have hr5 := upd_same (H := H4) (a := r) (o := .lst (ms.map fun x => V.ref x.1))
    have hP5 : PairsAt (upd H4 r (.lst (ms.map fun x => V.ref x.1))) p ps := ⟨s5 _ _ hP4.1, fun z hz => (hP4.2 z hz).keeps fun b ys y => s5 _ _ y⟩
    generalize upd H4 r (.lst (ms.map fun x => V.ref x.1)) = H5 at *
    have em : ms.map (·.2) = ps.map (·.2) := sorted_same aP.rise (pm2.trans pm) srt
    refine ne_is (α := List (Tup Int × Tup Int)) (is_list (sq_of hP5.1) (pairs_are hP5.2)) (is_list (sq_of hr5) (pairs_are fun z hz => hP5.2 z (pm.mem_iff.mp (pm2.mem_iff.mp hz)))) ⟨_, rfl, iteND (fun z => absurd (by rw [pairs_dp, pairs_dp, em]) z) fun _ => ?_⟩
    have e05 := (e03.trans s4).trans s5
    have hR5 := (hR.mono s4).mono s5
    -- the dice themselves
    refine ⟨_, rfl, a, ds, rfl, sq_of (e05 _ _ ha), fun one q1 pm1 rs1 nq1 => ?_⟩
    have s6 := same_new (o := .lst (one.map V.int)) nq1
    have hq1 := upd_same (H := H5) (a := q1) (o := .lst (one.map V.int))
    generalize upd H5 q1 (.lst (one.map V.int)) = H6 at *
    refine ⟨q1, _, rfl, .inl ⟨sq_of hq1, ?_⟩⟩
    intro u1 nu1
    have s7 := same_new (H := H6) (o := (.tup (one.map V.int))) nu1
    have hu1 := upd_same (H := H6) (a := u1) (o := (.tup (one.map V.int)))
    generalize upd H6 u1 (.tup (one.map V.int)) = H7 at *
    have e07 := (e05.trans s6).trans s7
    refine ⟨_, rfl, c, es, rfl, sq_of (e07 _ _ hc), fun other q2 pm2' rs2 nq2 => ?_⟩
    have s8 := same_new (o := .lst (other.map V.int)) nq2
    have hq2 := upd_same (H := H7) (a := q2) (o := .lst (other.map V.int))
    generalize upd H7 q2 (.lst (other.map V.int)) = H8 at *
    refine ⟨q2, _, rfl, .inl ⟨sq_of hq2, ?_⟩⟩
    intro u2 nu2
    have s9 := same_new (H := H8) (o := (.tup (other.map V.int))) nu2
    have hu2 := upd_same (H := H8) (a := u2) (o := (.tup (other.map V.int)))
    generalize upd H8 u2 (.tup (other.map V.int)) = H9 at *
    refine ⟨sz_ok (show 2 ≤ 1000000 by decide), ?_⟩
    intro u3 nu3
    have s10 := same_new (H := H9) (o := (.tup [.ref u1, .ref u2])) nu3
    have hu3 := upd_same (H := H9) (a := u3) (o := (.tup [.ref u1, .ref u2]))
    generalize upd H9 u3 (.tup [.ref u1, .ref u2]) = H10 at *
    have e710 := (s8.trans s9).trans s10
    have e510 := (s6.trans s7).trans e710
    have e010 := e05.trans e510
    have hP10 : PairsAt H10 p ps := ⟨e510 _ _ hP5.1, fun z hz => (hP5.2 z hz).keeps fun b ys y => e510 _ _ y⟩
    have own : PairAt H10 u3 (one, other) := ⟨u1, u2, hu3, e710 _ _ hu1, s10 _ _ hu2⟩
    refine ⟨_, rfl, Datum.toD (dpT (one, other)), (ps.map fun z => dpT z.2).map Datum.toD, pair_is own, is_list (sq_of hP10.1) (pairs_are hP10.2), shaped_pair _, shaped_pairs _, _, rfl, ?_⟩
    rw [in_pairs ((aP.mem _).mpr (sorted_pair hm hml (fun f hf => (g2.2.2 f hf).1) pm1 pm2' rs1 rs2))]
    refine iteF ?_
    have hR10 := hR5.mono e510
    have ha10 := e010 _ _ ha
    have hc10 := e010 _ _ hc
    clear hd4 hr5 hq1 hu1 hq2 hu2 hu3 own s4 s5 s6 s7 s8 s9 s10 hP3 hP4 hP5 pm2' rs1 rs2 pm1
    refine ⟨_, rfl, p, rfl, ⟨_, sq_of hP10.1⟩, for_list (K := K) (a := p) (xs := ps.map fun z => V.ref z.1)
      (fun i σ H' => Same H10 H' ∧ ∃ y4 y5, σ = [some (.ref p), some (.ref a), some (.ref c), some (.ref k), y4, y5])
      ⟨Same.refl H10, _, _, rfl⟩ (fun i σ H' _ h => sq_of (h.1 _ _ hP10.1)) ?_ ?_⟩
    · rintro i x σ H11 hi ⟨e11, y4, y5, rfl⟩
      obtain ⟨z, hz, rfl⟩ := List.mem_map.mp (List.mem_of_getElem? hi)
      have hI1 := (aP.mem z.2).mp (List.mem_map.mpr ⟨z, hz, rfl⟩)
      obtain ⟨f1, f2, h0, hf1, hf2⟩ := (hP10.2 z hz).keeps fun b ys y => e11 _ _ y
      obtain ⟨zp, F, G⟩ := z
      have hf1 : H11 f1 = some (.tup (F.map V.int)) := hf1
      have hf2 : H11 f2 = some (.tup (G.map V.int)) := hf2
      have la : F.length = ds.length := hI1.one
      have lb : G.length = es.length := hI1.other
      have ra : Rising F := hI1.r1
      have rb : Rising G := hI1.r2
      obtain ⟨hl1, hl2⟩ := least_head hI1.head ra
      have hcn : cntF [F, G] = cntT (throwsL [ds, es]) := hI1.cnt
      have ha11 := e11 _ _ ha10
      have hc11 := e11 _ _ hc10
      refine ⟨zp, _, rfl, st_of h0, rfl, _, _, rfl, _, _, rfl, rfl, ?_⟩
      refine ⟨_, rfl, f1, _, rfl, .inr (st_of hf1), _, rfl, a, _, rfl, .inl (sq_of ha11), rfl, _, rfl, iteND (fun z => absurd (by rw [List.length_map, List.length_map, la]) z) fun _ => ?_⟩
      refine ⟨_, rfl, f2, _, rfl, .inr (st_of hf2), _, rfl, c, _, rfl, .inl (sq_of hc11), rfl, _, rfl, iteND (fun z => absurd (by rw [List.length_map, List.length_map, lb]) z) fun _ => ?_⟩
      refine ⟨_, rfl, f1, F, rfl, st_of hf1, by omega, fun m1 hm1 hn1 => ⟨_, rfl, a, ds, rfl, sq_of ha11, by omega, fun m2 hm2 hn2 => ⟨rfl, _, rfl, iteND (fun z => absurd ?_ z) fun _ => ?_⟩⟩⟩
      · have x1 := hn1 l hl1
        have x2 := hl2 m1 hm1
        have x3 := hn2 l hm
        have x4 := hml m2 hm2
        rw [show m1 = m2 by omega]
      refine ⟨_, rfl, f1, _, rfl, .inr (st_of hf1), ?_⟩
      intro v1 nv1
      have s4 := same_new (H := H11) (o := (.lst (F.map V.int))) nv1
      have hv1 := upd_same (H := H11) (a := v1) (o := (.lst (F.map V.int)))
      generalize upd H11 v1 (.lst (F.map V.int)) = H12 at *
      have hf12 := s4 _ _ hf1
      refine ⟨_, rfl, f1, F, rfl, st_of hf12, fun F' v2 pm1 rs1 nv2 => ?_⟩
      obtain rfl : F' = F := rising_perm rs1 ra pm1
      have s5 := same_new (o := .lst (F'.map V.int)) nv2
      have hv2 := upd_same (H := H12) (a := v2) (o := .lst (F'.map V.int))
      generalize upd H12 v2 (.lst (F'.map V.int)) = H13 at *
      refine ne_is (α := List Int) (is_list (sq_of (s5 _ _ hv1)) (ints_all F')) (is_list (sq_of hv2) (ints_all F')) ⟨_, rfl, iteND (fun z => absurd rfl z) fun _ => ?_⟩
      have hf13 := s5 _ _ (s4 _ _ hf2)
      refine ⟨_, rfl, f2, _, rfl, .inr (st_of hf13), ?_⟩
      intro v3 nv3
      have s6 := same_new (H := H13) (o := (.lst (G.map V.int))) nv3
      have hv3 := upd_same (H := H13) (a := v3) (o := (.lst (G.map V.int)))
      generalize upd H13 v3 (.lst (G.map V.int)) = H14 at *
      have hf14 := s6 _ _ hf13
      refine ⟨_, rfl, f2, G, rfl, st_of hf14, fun G' v4 pm2 rs2 nv4 => ?_⟩
      obtain rfl : G' = G := rising_perm rs2 rb pm2
      have s7 := same_new (o := .lst (G'.map V.int)) nv4
      have hv4 := upd_same (H := H14) (a := v4) (o := .lst (G'.map V.int))
      generalize upd H14 v4 (.lst (G'.map V.int)) = H15 at *
      refine ne_is (α := List Int) (is_list (sq_of (s7 _ _ hv3)) (ints_all G')) (is_list (sq_of hv4) (ints_all G')) ⟨_, rfl, iteND (fun z => absurd rfl z) fun _ => ?_⟩
      have w15 := ((s4.trans s5).trans s6).trans s7
      have hg1 := w15 _ _ hf1
      have hg2 := w15 _ _ hf2
      refine ⟨_, rfl, f1, _, rfl, .inr (st_of hg1), ?_⟩
      intro k1 nk1
      have s8 := same_new (H := H15) (o := (.lst (F'.map V.int))) nk1
      have hk1 := upd_same (H := H15) (a := k1) (o := (.lst (F'.map V.int)))
      generalize upd H15 k1 (.lst (F'.map V.int)) = H16 at *
      refine ⟨_, rfl, f2, _, rfl, .inr (st_of (s8 _ _ hg2)), ?_⟩
      intro k2 nk2
      have s9 := same_new (H := H16) (o := (.lst (G'.map V.int))) nk2
      have hk2 := upd_same (H := H16) (a := k2) (o := (.lst (G'.map V.int)))
      generalize upd H16 k2 (.lst (G'.map V.int)) = H17 at *
      refine ⟨sz_ok (show 2 ≤ 1000000 by decide), ?_⟩
      intro kx nkx
      have s10 := same_new (H := H17) (o := (.lst [.ref k1, .ref k2])) nkx
      have hkx := upd_same (H := H17) (a := kx) (o := (.lst [.ref k1, .ref k2]))
      generalize upd H17 kx (.lst [.ref k1, .ref k2]) = H18 at *
      have lf : F'.length * G'.length ≤ 36 := by rw [la, lb]; exact h36
      refine ⟨kx, [k1, k2], [F', G'], rfl, ⟨hkx, .cons (s10 _ _ (s9 _ _ hk1)) (.cons (s10 _ _ hk2) .nil)⟩, by show 2 ≤ 4; decide, List.forall_mem_cons.mpr ⟨by omega, List.forall_mem_cons.mpr ⟨by omega, List.forall_mem_nil _⟩⟩, fun H19 x19 e19 nx19 hx19 => ?_⟩
      have tl := (throws_two F' G').1
      refine ⟨x19, throwsL [F', G'], rfl, hx19, by omega, fun H20 c20 rows20 e20 nc20 _ _ hI20 hR20 => ?_⟩
      have e1120 := ((((w15.trans s8).trans s9).trans s10).trans e19).trans e20
      rw [cnt_throws, hcn] at hI20
      refine ⟨_, rfl, ne_is (α := List (Int × Int)) (rows_is hR20) (rows_is ((hR10.mono e11).mono e1120)) ⟨_, rfl, iteND (fun z => absurd (counts_uniq hI20 hI) z) fun _ => ?_⟩⟩
      exact ⟨e11.trans e1120, _, _, rfl⟩
    · rintro σ H11 ⟨e11, y4, y5, rfl⟩
      exact q H11 (e010.trans e11)
end
end My

namespace My
open PySem PySem.Spec PyProof.Rows L2
open PySem.W (Datum Tup)
section
variable {P : Program} {w : World} {K : PySem.W.Frag} {mg : Str → Option Value} {base : Heap}
/-! ### all faces so many times, the first die's so much more -/
def chP (by_ lift : Int) (p : Pr) : Pr := (p.1.map fun f => by_ * f + lift, p.2.map fun f => by_ * f)
def timesV (b t : Int) : V → V
  | .int f => .int (b * f + t)
  | _ => .non
def times0V (b : Int) : V → V
  | .int f => .int (b * f)
  | _ => .non
def spChanged : Sp := fun vs H Q _ => ∃ (p : Addr) (ps : List (Addr × Pr)) (b t : Int), vs = [.ref p, .int b, .int t] ∧ PairsAt H p ps ∧ ps.length ≤ 1024 ∧ (∀ z ∈ ps, z.2.1.length ≤ 6 ∧ z.2.2.length ≤ 6) ∧ 0 ≤ b ∧ b ≤ 100 ∧
  ∀ H' u us, Same H H' → H u = none → PairsAt H' u us → us.map (·.2) = (ps.map (·.2)).map (chP b t) → Q (.ref u) H'
theorem ok_law_changed (T : Lay K mg) : FnOk P w K mg base CX0 1 T.a_law_changed T.d_law_changed ["_law_pairs", "_law_by", "_law_lift"] spChanged := by
  refine T.f_law_changed.ok sc_law_changed (fun vs H Q E h => ?_) (fun cdv A outer s H vs Q E hr h => ?_)
  · obtain ⟨_, _, _, _, rfl, _⟩ := h
    rfl
  · obtain ⟨p, ps, b, t, rfl, hP, h1024, h6, b0, b1, q⟩ := h
    refine ⟨_, (pss_cons (ps_set (i := 3) sc_law_changed.nd rfl (Or.inl rfl) (pe_lst pa_nil))
    (pss_cons (ps_for PassesOwn.never rfl (pi_list (pv 0)) (pg_tup rfl (pgs_cons (pg_name (i := 4) sc_law_changed.nd rfl (Or.inl rfl)) (pgs_cons (pg_name (i := 5) sc_law_changed.nd rfl (Or.inl rfl)) pgs_nil))) (pss_one (ps_expr (pe_bm PySem.F.plainAttrs_list PySem.F.slot_list_append PySem.F.type_list_append mt_append (pv 3) (pa_cons (pe_tup (pa_cons (pe_callTy call_tuple_of (by rfl) T.n_tuple (by decide +kernel) (pa_cons (pe_lc (own := [("_law_face", 6)]) (g := (gName 6)) rfl sc_law_changed.nd (pi_tup (pv 4)) (blkOk_by (N := nm_law_changed) (sc := defScope st_law_changed) (by decide +kernel)) (fun _ _ _ _ _ => (pg_name (i := 6) sc_law_changed.nd rfl (Or.inl rfl))) (fun _ _ _ _ _ => pts_nil) (fun _ _ _ _ _ => (pe_op op_add (pe_op op_mul (pv 1) (pv 6)) (pv 2)))) pa_nil)) (pa_cons (pe_callTy call_tuple_of (by rfl) T.n_tuple (by decide +kernel) (pa_cons (pe_lc (own := [("_law_face", 6)]) (g := (gName 6)) rfl sc_law_changed.nd (pi_tup (pv 5)) (blkOk_by (N := nm_law_changed) (sc := defScope st_law_changed) (by decide +kernel)) (fun _ _ _ _ _ => (pg_name (i := 6) sc_law_changed.nd rfl (Or.inl rfl))) (fun _ _ _ _ _ => pts_nil) (fun _ _ _ _ _ => (pe_op op_mul (pv 1) (pv 6)))) pa_nil)) pa_nil))) pa_nil)))))
    (pss_one (ps_ret (pv 3))))), ?_⟩
    refine ⟨sz_ok (show 0 ≤ 1000000 by decide), ?_⟩
    intro lg nlg
    have s0 := same_new (H := H) (o := (.lst [])) nlg
    have hlg := upd_same (H := H) (a := lg) (o := (.lst []))
    generalize upd H lg (.lst []) = H0 at *
    have hP0 : PairsAt H0 p ps := ⟨s0 _ _ hP.1, fun z hz => (hP.2 z hz).keeps fun b ys y => s0 _ _ y⟩
    have npl : p ≠ lg := fun z => by
      have := hP.1
      rw [z, nlg] at this
      cases this
    refine ⟨_, rfl, p, rfl, ⟨_, sq_of hP0.1⟩, for_list (K := K) (a := p) (xs := ps.map fun z => V.ref z.1)
      (fun i σ H' => (∃ y4 y5 y6, σ = [some (.ref p), some (.int b), some (.int t), some (.ref lg), y4, y5, y6]) ∧ (∀ c o, c ≠ lg → H0 c = some o → H' c = some o) ∧ ∃ us, PairsAt H' lg us ∧ us.map (·.2) = ((ps.take i).map (·.2)).map (chP b t))
      ⟨⟨_, _, _, rfl⟩, fun _ _ _ h => h, [], ⟨hlg, fun z hz => nomatch hz⟩, rfl⟩ (fun i σ H' _ ⟨_, e, _⟩ => sq_of (e _ _ npl hP0.1)) ?_ ?_⟩
    · rintro i x σ H1 hi ⟨⟨y4, y5, y6, rfl⟩, e1, us, hU, eU⟩
      have eHH1 : Same H H1 := fun c o z => e1 c o (fun y => by rw [y, nlg] at z; cases z) (s0 _ _ z)
      rw [List.getElem?_map] at hi
      obtain ⟨z, hzi, rfl⟩ := Option.map_eq_some_iff.mp hi
      have hz := List.mem_of_getElem? hzi
      obtain ⟨f1, f2, h0, hf1, hf2⟩ := (hP.2 z hz).keeps fun c ys y => eHH1 _ _ y
      obtain ⟨l1, l2⟩ := h6 z hz
      obtain ⟨zp, F, G⟩ := z
      have hf1 : H1 f1 = some (.tup (F.map V.int)) := hf1
      have hf2 : H1 f2 = some (.tup (G.map V.int)) := hf2
      have l1 : F.length ≤ 6 := l1
      have l2 : G.length ≤ 6 := l2
      refine ⟨zp, _, rfl, st_of h0, rfl, _, _, rfl, _, _, rfl, rfl, ?_⟩
      refine ⟨_, rfl, .inl ⟨rfl, _, sq_of hU.1⟩, _, rfl, f1, rfl, ⟨_, st_of hf1⟩, fun D nD => ?_⟩
      refine lt_all (K := K) (timesV b t) nD hf1 (by rw [List.length_map]; omega) (fun x H' R hx e r N => ?_) (fun H2 e2 hD2 => ?_)
      · obtain ⟨f, _, rfl⟩ := List.mem_map.mp hx
        exact ⟨rfl, iteT (B := N H') ⟨_, rfl, _, rfl, b, f, rfl, rfl, .inl ⟨by omega, by omega⟩, _, rfl, _, t, rfl, rfl, r H' (Same.refl H')⟩⟩
      have m1 : (F.map V.int).map (timesV b t) = (F.map fun f => b * f + t).map V.int := by
        rw [List.map_map, List.map_map]
        rfl
      rw [m1] at hD2
      refine ⟨D, _, rfl, .inl ⟨sq_of hD2, ?_⟩⟩
      intro u1 nu1
      have s3 := same_new (H := H2) (o := (.tup ((F.map fun f => b * f + t).map V.int))) nu1
      have hu1 := upd_same (H := H2) (a := u1) (o := (.tup ((F.map fun f => b * f + t).map V.int)))
      generalize upd H2 u1 (.tup ((F.map fun f => b * f + t).map V.int)) = H3 at *
      have e13 := e2.trans s3
      have hf3 := e13 _ _ hf2
      refine ⟨_, rfl, f2, rfl, ⟨_, st_of hf3⟩, fun D2 nD2 => ?_⟩
      refine lt_all (K := K) (times0V b) nD2 hf3 (by rw [List.length_map]; omega) (fun x H' R hx e r N => ?_) (fun H4 e4 hD4 => ?_)
      · obtain ⟨f, _, rfl⟩ := List.mem_map.mp hx
        exact ⟨rfl, iteT (B := N H') ⟨_, rfl, _, rfl, b, f, rfl, rfl, .inl ⟨by omega, by omega⟩, r H' (Same.refl H')⟩⟩
      have m2 : (G.map V.int).map (times0V b) = (G.map fun f => b * f).map V.int := by
        rw [List.map_map, List.map_map]
        rfl
      rw [m2] at hD4
      refine ⟨D2, _, rfl, .inl ⟨sq_of hD4, ?_⟩⟩
      intro u2 nu2
      have s5 := same_new (H := H4) (o := (.tup ((G.map fun f => b * f).map V.int))) nu2
      have hu2 := upd_same (H := H4) (a := u2) (o := (.tup ((G.map fun f => b * f).map V.int)))
      generalize upd H4 u2 (.tup ((G.map fun f => b * f).map V.int)) = H5 at *
      refine ⟨sz_ok (show 2 ≤ 1000000 by decide), ?_⟩
      intro u3 nu3
      have s6 := same_new (H := H5) (o := (.tup [.ref u1, .ref u2])) nu3
      have hu3 := upd_same (H := H5) (a := u3) (o := (.tup [.ref u1, .ref u2]))
      generalize upd H5 u3 (.tup [.ref u1, .ref u2]) = H6 at *
      have e36 := (e4.trans s5).trans s6
      have e16 := e13.trans e36
      have hU6 : PairsAt H6 lg us := ⟨e16 _ _ hU.1, fun z hz => (hU.2 z hz).keeps fun c ys y => e16 _ _ y⟩
      have new : PairAt H6 u3 (chP b t (F, G)) := ⟨u1, u2, hu3, e36 _ _ hu1, s6 _ _ hu2⟩
      have lus : us.length ≤ 1024 := by
        have := congrArg List.length eU
        rw [List.length_map, List.length_map, List.length_map, List.length_take] at this
        omega
      refine ⟨lg, _, .ref u3, rfl, rfl, hU6.1, sz_lt (by rw [List.length_map]; omega), ⟨_, _, _, rfl⟩, fun c o nc z => ?_, us ++ [(u3, chP b t (F, G))], ⟨?_, fun z hz2 => ?_⟩, ?_⟩
      · rw [upd_ne nc]
        exact e16 _ _ (e1 c o nc z)
      · rw [upd_same, List.map_append]
        rfl
      · have kt : ∀ c xs, H6 c = some (.tup xs) → (upd H6 lg (.lst (us.map (fun z => V.ref z.1) ++ [.ref u3]))) c = some (.tup xs) := fun c xs y => by
          rw [upd_ne fun z => by rw [z, hU6.1] at y; cases y]
          exact y
        rcases List.mem_append.mp hz2 with c | c
        · exact (hU6.2 z c).keeps kt
        · rw [List.mem_singleton.mp c]
          exact new.keeps kt
      · rw [List.map_append, eU, take_snoc hzi, List.map_append, List.map_append]
        rfl
    · rintro σ H1 ⟨⟨y4, y5, y6, rfl⟩, e1, us, hU, eU⟩
      rw [List.length_map, List.take_length] at eU
      exact ⟨_, rfl, q H1 lg us (fun c o z => e1 c o (fun y => by rw [y, nlg] at z; cases z) (s0 _ _ z)) nlg hU eU⟩
end
end My

namespace My
open PySem PySem.Spec PyProof.Rows L2
open PySem.W (Datum Tup)
section
variable {P : Program} {w : World} {K : PySem.W.Frag} {mg : Str → Option Value} {base : Heap}
/-! ### exchanged, lifted, so many times -/
theorem cnt_swap (d e : List Int) : cntF [d, e] = cntF [e, d] := cntF_perm (List.Perm.swap e d [])
theorem cnt_least {ds es : List Int} {a b : Int} (ha : a ∈ ds) (hal : ∀ x ∈ ds, a ≤ x) (hb : b ∈ es) (hbl : ∀ y ∈ es, b ≤ y) : 0 < cntF [ds, es] (a + b) ∧ ∀ s, 0 < cntF [ds, es] s → a + b ≤ s := by
  rw [cnt_two]
  refine ⟨conv_pos.mpr ⟨a, ha, b, hb, rfl⟩, fun s hs => ?_⟩
  obtain ⟨x, hx, y, hy, e⟩ := conv_pos.mp hs
  have := hal x hx
  have := hbl y hy
  omega
section
variable {g : Int → Int} {M L : Nat} {a b : Int}
theorem other_head {p : Pr} (Q : IsPair g M L a p) (hM : 1 ≤ M) (hL : 1 ≤ L) (h0 : 0 < g (a + b)) (hl : ∀ s, 0 < g s → a + b ≤ s) : p.2.head? = some b := by
  have := (start_whole Q hL hM h0 hl).2
  rw [show a + b - a = b by omega] at this
  obtain ⟨d, e⟩ := p
  cases e with
  | nil => cases this
  | cons y r =>
    have h : [y] = [b] := this
    rw [List.cons.inj h |>.1]
    rfl
theorem exch {p : Pr} (Q : IsPair g M L a p) (hM : 1 ≤ M) (hL : 1 ≤ L) (h0 : 0 < g (a + b)) (hl : ∀ s, 0 < g s → a + b ≤ s) (ha : 0 ≤ a) : IsPair g L M b (p.2, p.1) where
  one := Q.other
  other := Q.one
  r1 := Q.r2
  r2 := Q.r1
  head := other_head Q hM hL h0 hl
  zero := fun f hf => Int.le_trans ha ((least_head Q.head Q.r1).2 f hf)
  cnt := by
    rw [cnt_swap]
    exact Q.cnt
/-- all pairs exchanged are all exchanged pairs -/
theorem all_exch {ps qs : List Pr} (A : AllPairs g M L a ps) (hM : 1 ≤ M) (hL : 1 ≤ L) (h0 : 0 < g (a + b)) (hl : ∀ s, 0 < g s → a + b ≤ s) (ha : 0 ≤ a) (hb : 0 ≤ b) (hm : ∀ q, q ∈ qs ↔ (q.2, q.1) ∈ ps) (hr : qs.Pairwise fun p q => lxP p q = true) : AllPairs g L M b qs where
  mem := fun q => by
    rw [hm, A.mem]
    constructor
    · intro Q
      exact exch Q hM hL h0 hl ha
    · intro Q
      exact exch (b := a) Q hL hM (by rw [Int.add_comm]; exact h0) (fun s hs => by rw [Int.add_comm]; exact hl s hs) hb
  rise := hr
end
section
variable {b t : Int} (hb : 1 ≤ b)
include hb
theorem mul_same {x y : Int} (h : b * x = b * y) : x = y := Int.eq_of_mul_eq_mul_left (by omega) h
theorem cnt_times (z : Int) : ∀ F : List Int, cntT (F.map fun f => b * f + t) (b * z + t) = cntT F z
  | [] => rfl
  | x :: F => by
    have ih := cnt_times z F
    rw [List.map_cons, cntT_cons, cntT_cons, ih]
    by_cases c : z = x
    · rw [if_pos c, if_pos (by rw [c])]
    · rw [if_neg c, if_neg fun e => c (mul_same hb (by omega))]
theorem conv_times (F : List Int) (s : Int) : ∀ G : List Int, conv (cntT (F.map fun f => b * f + t)) (G.map fun f => b * f) (b * s + t) = conv (cntT F) G s
  | [] => rfl
  | y :: G => by
    have e : b * s + t - b * y = b * (s - y) + t := by
      rw [Int.mul_sub]
      omega
    rw [List.map_cons, conv_cons, conv_cons, conv_times F s G, e, cnt_times hb]
omit hb in
theorem times_form {F G : List Int} {u : Int} (h : 0 < conv (cntT (F.map fun f => b * f + t)) (G.map fun f => b * f) u) : ∃ s, u = b * s + t := by
  obtain ⟨x, hx, y, hy, e⟩ := conv_pos.mp h
  obtain ⟨f, _, rfl⟩ := List.mem_map.mp hx
  obtain ⟨k, _, rfl⟩ := List.mem_map.mp hy
  exact ⟨f + k, by rw [Int.mul_add]; omega⟩
theorem times_iff {F G F' G' : List Int} : cntF [F.map (fun f => b * f + t), G.map fun f => b * f] = cntF [F'.map (fun f => b * f + t), G'.map fun f => b * f] ↔ cntF [F, G] = cntF [F', G'] := by
  rw [cnt_two, cnt_two, cnt_two, cnt_two]
  constructor
  · intro h
    funext s
    have := congrFun h (b * s + t)
    rw [conv_times hb, conv_times hb] at this
    exact this
  · intro h
    funext u
    by_cases c : ∃ s, u = b * s + t
    · obtain ⟨s, rfl⟩ := c
      rw [conv_times hb, conv_times hb, h]
    · have z : ∀ X Y : List Int, conv (cntT (X.map fun f => b * f + t)) (Y.map fun f => b * f) u = 0 := fun X Y => by
        have n := conv_nonneg (X.map fun f => b * f + t) u (Y.map fun f => b * f)
        have np : ¬ 0 < conv (cntT (X.map fun f => b * f + t)) (Y.map fun f => b * f) u := fun p => c (times_form p)
        omega
      rw [z, z]
theorem lt_times (t x y : Int) : b * x + t < b * y + t ↔ x < y := by
  constructor
  · intro h
    exact Int.lt_of_mul_lt_mul_left (a := b) (by omega) (by omega)
  · intro h
    have := Int.mul_lt_mul_of_pos_left h (show 0 < b by omega)
    omega
end
section
variable {b t : Int} (hb : 1 ≤ b)
include hb
theorem lx_times (t : Int) : ∀ l m : List Int, lxL (l.map fun f => b * f + t) (m.map fun f => b * f + t) = lxL l m
  | [], [] => rfl
  | [], _ :: _ => rfl
  | _ :: _, [] => rfl
  | x :: l, y :: m => by
    have ih := lx_times t l m
    show (if b * x + t = b * y + t then lxL (l.map fun f => b * f + t) (m.map fun f => b * f + t) else decide (b * x + t < b * y + t)) = if x = y then lxL l m else decide (x < y)
    by_cases c : x = y
    · rw [if_pos c, if_pos (by rw [c]), ih]
    · rw [if_neg c, if_neg fun e => c (mul_same hb (by omega))]
      exact decide_eq_decide.mpr (lt_times hb t x y)
theorem lx_times0 (l m : List Int) : lxL (l.map fun f => b * f) (m.map fun f => b * f) = lxL l m := by
  have := lx_times hb 0 l m
  simp only [Int.add_zero] at this
  exact this
theorem map_times_inj {l m : List Int} (h : (l.map fun f => b * f + t) = m.map fun f => b * f + t) : l = m := (List.map_inj_right (fun x y e => mul_same hb (by omega))).mp h
theorem lxP_times (p q : Pr) : lxP (chP b t p) (chP b t q) = lxP p q := by
  unfold lxP
  by_cases c : p.1 = q.1
  · rw [if_pos c, if_pos (show (chP b t p).1 = (chP b t q).1 by unfold chP; rw [c])]
    exact lx_times0 hb _ _
  · rw [if_neg c, if_neg (fun e => c (map_times_inj (t := t) hb e) : ¬ (chP b t p).1 = (chP b t q).1)]
    exact lx_times hb t _ _
theorem rising_times (t : Int) {l : List Int} : Rising (l.map fun f => b * f + t) ↔ Rising l := by
  unfold Rising
  rw [List.pairwise_map]
  constructor
  · exact fun h => h.imp fun {x y} k => by
      have := lt_times hb t y x
      omega
  · exact fun h => h.imp fun {x y} k => by
      have := lt_times hb t y x
      omega
theorem rising_times0 {l : List Int} : Rising (l.map fun f => b * f) ↔ Rising l := by
  have := rising_times hb 0 (l := l)
  simp only [Int.add_zero] at this
  exact this
/-- the pairs of the changed dice are the changed pairs -/
theorem all_times {ds es : List Int} {a a0 : Int} {ps : List Pr} (ha : a ∈ ds) (hal : ∀ x ∈ ds, a ≤ x) (h0 : a0 ∈ es) (h0l : ∀ y ∈ es, a0 ≤ y) (A : AllPairs (cntT (throwsL [ds, es])) ds.length es.length a ps) :
    AllPairs (cntT (throwsL [ds.map fun f => b * f + t, es.map fun f => b * f])) ds.length es.length (b * a + t) (ps.map (chP b t)) where
  rise := List.pairwise_map.mpr (A.rise.imp fun h => by rw [lxP_times hb]; exact h)
  mem := fun q => by
    have hM : 1 ≤ ds.length := List.length_pos_of_mem ha
    have hL : 1 ≤ es.length := List.length_pos_of_mem h0
    rw [List.mem_map]
    constructor
    · rintro ⟨p, hp, rfl⟩
      have Q := (A.mem p).mp hp
      refine ⟨(List.length_map _).trans Q.one, (List.length_map _).trans Q.other, (rising_times hb t).mpr Q.r1, (rising_times0 hb).mpr Q.r2, ?_, fun f hf => ?_, ?_⟩
      · show (p.1.map fun f => b * f + t).head? = some (b * a + t)
        rw [List.head?_map, Q.head]
        rfl
      · obtain ⟨y, hy, rfl⟩ := List.mem_map.mp hf
        exact Int.mul_nonneg (by omega) (Q.zero y hy)
      · rw [cnt_throws]
        refine (times_iff hb).mpr ?_
        rw [← cnt_throws [ds, es]]
        exact Q.cnt
    · intro Q
      have e0 : b * (a + a0) + t = (b * a + t) + b * a0 := by rw [Int.mul_add]; omega
      have hc : cntF [q.1, q.2] = cntF [ds.map fun f => b * f + t, es.map fun f => b * f] := by rw [Q.cnt, cnt_throws]
      obtain ⟨c1, c2⟩ := cnt_least (ds := ds.map fun f => b * f + t) (es := es.map fun f => b * f) (a := b * a + t) (b := b * a0) (List.mem_map.mpr ⟨a, ha, rfl⟩) (fun x hx => by
        obtain ⟨f, hf, rfl⟩ := List.mem_map.mp hx
        have := lt_times hb t f a
        have := hal f hf
        omega) (List.mem_map.mpr ⟨a0, h0, rfl⟩) (fun x hx => by
        obtain ⟨f, hf, rfl⟩ := List.mem_map.mp hx
        have := lt_times hb 0 f a0
        have := h0l f hf
        omega)
      have hh : q.2.head? = some (b * a0) := other_head Q hM hL (by rw [cnt_throws]; exact c1) fun s hs => c2 s (by rw [cnt_throws] at hs; exact hs)
      have hq1 := (least_head Q.head Q.r1).1
      have hq2 := (least_head hh Q.r2).1
      have form : ∀ x ∈ q.1, ∀ y ∈ q.2, ∃ s, x + y = b * s + t := fun x hx y hy => by
        have : 0 < cntF [q.1, q.2] (x + y) := by
          rw [cnt_two]
          exact conv_pos.mpr ⟨x, hx, y, hy, rfl⟩
        rw [hc, cnt_two] at this
        exact times_form this
      have b0 : b ≠ 0 := by omega
      have back1 : ∀ x ∈ q.1, b * ((x - t) / b) + t = x := fun x hx => by
        obtain ⟨s, e⟩ := form x hx _ hq2
        have e2 : x - t = b * (s - a0) := by
          rw [Int.mul_sub]
          omega
        rw [e2, Int.mul_ediv_cancel_left _ b0, ← e2]
        omega
      have back2 : ∀ y ∈ q.2, b * (y / b) = y := fun y hy => by
        obtain ⟨s, e⟩ := form _ hq1 y hy
        have e2 : y = b * (s - a) := by
          rw [Int.mul_sub]
          omega
        rw [e2, Int.mul_ediv_cancel_left _ b0]
      have eq1 : (q.1.map fun x => (x - t) / b).map (fun f => b * f + t) = q.1 := by
        rw [List.map_map]
        exact (List.map_congr_left (g := id) fun x hx => back1 x hx).trans (List.map_id _)
      have eq2 : (q.2.map fun y => y / b).map (fun f => b * f) = q.2 := by
        rw [List.map_map]
        exact (List.map_congr_left (g := id) fun y hy => back2 y hy).trans (List.map_id _)
      refine ⟨(q.1.map fun x => (x - t) / b, q.2.map fun y => y / b), (A.mem _).mpr ⟨(List.length_map _).trans Q.one, (List.length_map _).trans Q.other, ?_, ?_, ?_, fun f hf => ?_, ?_⟩, Prod.ext eq1 eq2⟩
      · refine (rising_times hb t).mp ?_
        rw [eq1]
        exact Q.r1
      · refine (rising_times0 hb).mp ?_
        rw [eq2]
        exact Q.r2
      · show (q.1.map fun x => (x - t) / b).head? = some a
        rw [List.head?_map, Q.head]
        show some ((b * a + t - t) / b) = some a
        rw [show b * a + t - t = b * a by omega, Int.mul_ediv_cancel_left _ b0]
      · obtain ⟨y, hy, rfl⟩ := List.mem_map.mp hf
        exact Int.ediv_nonneg (Q.zero y hy) (by omega)
      · rw [cnt_throws]
        refine (times_iff (t := t) hb).mp ?_
        rw [eq1, eq2]
        exact hc
end
/-! ### a comprehension that makes new pairs of the items of pairs -/
theorem lc_swaps {a : Addr} {ps : List (Addr × Pr)} {g : TG} {tt : TT} {te : TE} {vs : List Nat} {σ : L2.St} {H1 : Hp} {D : Addr} {Qd : Hp → Prop} (f : Pr → Pr) (nD : H1 D = none) (hS : PairsAt H1 a ps) (len : ps.length ≤ 1024)
    (hs : ∀ z H' (R : V → Hp → Prop), z ∈ ps → PairAt H' z.1 z.2 → (∀ H4 t, Same H' H4 → PairAt H4 t (f z.2) → R (.ref t) H4) → ∀ N : Hp → Prop, g (.ref z.1) (wipe σ vs) H' fun σ2 H2 => wipe σ2 vs = wipe σ vs ∧ tt σ2 H2 fun b H3 => if b = true then te σ2 H3 R else N H3)
    (hd : ∀ H' us, Same H1 H' → PairsAt H' D us → us.map (·.2) = (ps.map (·.2)).map f → Qd H') :
    ∃ W : Nat → Nat → Hp → Prop, (∃ m, W 0 m (upd H1 D (.lst []))) ∧ ∀ i m H, W i m H → ((Itl K a).stop i H ∧ Qd H) ∨ ((Itl K a).go i H ∧ ∃ Nx : Hp → Prop, (∀ H', Nx H' → ∃ m', m' < m ∧ W (i + 1) m' H') ∧
      ∀ x H', (Itl K a).yld i H x H' → g x (wipe σ vs) H' fun σ2 H2 => wipe σ2 vs = wipe σ vs ∧ tt σ2 H2 fun b H3 => if b = true then te σ2 H3 fun y H4 => ∃ acc, H4 D = some (.lst acc) ∧ acc.length < sizeLine ∧ Nx (upd H4 D (.lst (acc ++ [y]))) else Nx H3) := by
  refine lc_list (K := K) (a := a) (xs := ps.map fun z => V.ref z.1) (fun i H => Same H1 H ∧ ∃ us, PairsAt H D us ∧ us.map (·.2) = ((ps.take i).map (·.2)).map f) ⟨same_new nD, [], ⟨upd_same, fun z h => nomatch h⟩, rfl⟩ (fun i H _ p => sq_of (p.1 _ _ hS.1)) ?_ ?_
  · rintro i x H hi ⟨p1, us, hU, eU⟩
    rw [List.getElem?_map] at hi
    obtain ⟨z, hzi, rfl⟩ := Option.map_eq_some_iff.mp hi
    have hz := List.mem_of_getElem? hzi
    have lus : us.length ≤ 1024 := by
      have := congrArg List.length eU
      rw [List.length_map, List.length_map, List.length_map, List.length_take] at this
      omega
    refine hs z H _ hz ((hS.2 z hz).keeps fun b ys y => p1 _ _ y) (fun H4 t e4 ht => ?_) _
    have hD4 := e4 _ _ hU.1
    have kt : ∀ c xs, H4 c = some (.tup xs) → (upd H4 D (.lst (us.map (fun z => V.ref z.1) ++ [.ref t]))) c = some (.tup xs) := fun c xs y => by
      rw [upd_ne fun z => by rw [z, hD4] at y; cases y]
      exact y
    refine ⟨_, hD4, sz_lt (by rw [List.length_map]; omega), fun b o e => ?_, us ++ [(t, f z.2)], ⟨?_, fun u hu => ?_⟩, ?_⟩
    · rw [upd_ne (ne_of_none e nD)]
      exact e4 _ _ (p1 _ _ e)
    · rw [upd_same, List.map_append]
      rfl
    · rcases List.mem_append.mp hu with c | c
      · exact ((hU.2 u c).keeps fun b ys y => e4 _ _ y).keeps kt
      · rw [List.mem_singleton.mp c]
        exact ht.keeps kt
    · rw [List.map_append, eU, take_snoc hzi, List.map_append, List.map_append]
      rfl
  · rintro H ⟨p1, us, hU, eU⟩
    rw [List.length_map, List.take_length] at eU
    exact hd H us p1 hU eU
/-- sorted of a list of pairs of dice -/
theorem sortD_pairs {H : Hp} {a : Addr} {us : List (Addr × Pr)} {Q : VK} (hU : PairsAt H a us) (q : ∀ (ms : List (Addr × Pr)) (p : Addr), ms.Perm us → ms.Pairwise (fun x y => lxP y.2 x.2 = false) → H p = none → Q (.ref p) (upd H p (.lst (ms.map fun z => V.ref z.1)))) : rSortedD (Tup Int × Tup Int) K [.ref a] H Q := by
  refine ⟨a, us.map fun z => (z.1, dpT z.2), rfl, ?_, fun k hk => ?_, ordered_pairs, by decide, .inl fun x => ⟨_, _, rfl⟩, fun ks p pm srt np => ?_⟩
  · rw [List.map_map]
    exact sq_of hU.1
  · obtain ⟨z, hz, rfl⟩ := List.mem_map.mp hk
    exact pair_is (hU.2 z hz)
  · have pm2 := pm.map fun k : Addr × (Tup Int × Tup Int) => (k.1, ((k.2.1.items, k.2.2.items) : Pr))
    have e1 : (us.map fun z => (z.1, dpT z.2)).map (fun k : Addr × (Tup Int × Tup Int) => (k.1, ((k.2.1.items, k.2.2.items) : Pr))) = us := by
      rw [List.map_map]
      exact (List.map_congr_left (g := id) fun x _ => rfl).trans (List.map_id _)
    rw [e1] at pm2
    have := q _ p pm2 (List.pairwise_map.mpr (srt.imp fun {x y} h => by rw [ltP_is] at h; exact h)) np
    rw [List.map_map] at this
    exact this
theorem if_false {c : TT} {A : TS} {D : Ends} {σ : L2.St} {H : Hp} (h : ∀ Qb : Bool → Hp → Prop, (∀ H', Same H H' → Qb false H') → c σ H Qb) (k : ∀ H', Same H H' → D.nx σ H') : tIfS c A tNext D σ H := h _ fun H' e => k H' e
theorem cut_last (l : List V) (v : V) : cutV (l ++ [v]) none (some (-1)) = l := by
  unfold cutV
  have e : HT.sIx (l ++ [v]).length (l ++ [v]).length (some (-1)) = l.length := by
    unfold HT.sIx
    rw [List.length_append, List.length_singleton]
    dsimp only
    rw [if_pos (by decide)]
    omega
  rw [e, HT.sIx_none, Nat.sub_zero, List.drop_zero, List.take_left]
theorem cnt_back (ds es : List Int) : cntT (throwsL [es.reverse, ds.reverse]) = cntT (throwsL [ds, es]) := by
  rw [cnt_throws, cnt_throws, cnt_swap, cnt_two, cnt_two, conv_perm _ (List.reverse_perm es)]
  congr 1
  funext s
  exact cntT_perm (List.reverse_perm ds) s
/-! ### alike, of good dice; orders of data -/
theorem dp_irr (x : Tup Int × Tup Int) : PySem.W.DatumOrd.lt x x = false := by
  rw [ltP_is, lxP_irr]
theorem dp_trans {x y z : Tup Int × Tup Int} (h1 : PySem.W.DatumOrd.lt x y = true) (h2 : PySem.W.DatumOrd.lt y z = true) : PySem.W.DatumOrd.lt x z = true := by
  rw [ltP_is] at *
  exact lxP_trans h1 h2
theorem dp_strict {ks : List (Addr × (Tup Int × Tup Int))} (un : (ks.map (·.2)).Nodup) (h : ks.Pairwise fun x y => PySem.W.DatumOrd.lt y.2 x.2 = false) : (ks.map (·.2)).Pairwise fun x y => PySem.W.DatumOrd.lt x y = true := by
  refine List.pairwise_map.mpr ((List.pairwise_map.mp un).imp₂ (fun x y ne le => ?_) h)
  cases c : PySem.W.DatumOrd.lt x.2 y.2 with
  | true => rfl
  | false =>
    rw [ltP_is] at c le
    have := lxP_total c le
    exact absurd (show x.2 = y.2 by
      obtain ⟨x0, ⟨x1⟩, ⟨x2⟩⟩ := x
      obtain ⟨y0, ⟨y1⟩, ⟨y2⟩⟩ := y
      have e1 := congrArg Prod.fst this
      have e2 := congrArg Prod.snd this
      dsimp only at e1 e2 ⊢
      rw [e1, e2]) ne
theorem pair_fine {H : Hp} {a : Addr} {ds : List Int} (h : H a = some (.lst (ds.map V.int))) (g : good ds) (l : ds.length ≤ 6) : pairDieV H (.ref a) = true := by
  unfold pairDieV
  rw [lstOf_ref h]
  show (dieB (ds.map V.int) && decide ((ds.map V.int).length ≤ 6)) = true
  rw [die_good g, List.length_map, decide_eq_true l]
  rfl
/-- alike, of two good dice -/
theorem alike_call {D C N : Addr} {H : Hp} {a c : Addr} {ds es : List Int} {Q : VK} {E : XK} (ha : H a = some (.lst (ds.map V.int))) (hc : H c = some (.lst (es.map V.int))) (g1 : good ds) (g2 : good es) (l1 : ds.length ≤ 6) (l2 : es.length ≤ 6)
    (q : ∀ (l : Int) H' p ps, l ∈ ds → (∀ x ∈ ds, l ≤ x) → Same H H' → H p = none → PairsAt H' p ps → ps.length ≤ 1024 → AllPairs (cntT (throwsL [ds, es])) ds.length es.length l (ps.map (·.2)) → Q (.ref p) H') : spAlike D C N [.ref a, .ref c] H Q E := by
  have f1 := pair_fine ha g1 l1
  have f2 := pair_fine hc g2 l2
  refine ⟨.ref a, .ref c, rfl, thing_die ha, thing_die hc, fun z => ?_, fun _ _ => ⟨a, c, ds, es, rfl, rfl, ha, hc, g1, g2, l1, l2, q⟩⟩
  rcases z with z | z
  · rw [f1] at z
    cases z
  · rw [f2] at z
    cases z
end
end My

namespace My
open PySem PySem.Spec PyProof.Rows L2
open PySem.W (Datum Tup)
section
variable {P : Program} {w : World} {K : PySem.W.Frag} {mg : Str → Option Value} {base : Heap}
/-! ### one way or both, then the same -/
theorem iteC {p : Prop} {dec : Decidable p} {A : Prop} {C : L2.St → Hp → Prop} {σ : L2.St} {H : Hp} (G : L2.St → Hp → Prop) (k : ∀ σ' H', Same H H' → G σ' H' → C σ' H') (g : G σ H) (h1 : p → (∀ σ' H', Same H H' → G σ' H' → C σ' H') → A) : if decide p = true then A else C σ H := by
  by_cases h : p
  · rw [decide_eq_true h, if_pos rfl]
    exact h1 h k
  · rw [decide_eq_false h]
    exact k σ H (Same.refl H) g
theorem cut_to (l : List V) {k : Int} (h : 0 ≤ k) : cutV l none (some k) = l.take k.toNat := by
  obtain ⟨n, rfl⟩ : ∃ n : Nat, k = (n : Int) := ⟨k.toNat, by omega⟩
  unfold cutV
  rw [HT.sIx_none, HT.sIx_nat _ _ n, List.drop_zero, Nat.sub_zero, Int.toNat_natCast]
  rcases Nat.le_total n l.length with h | h
  · rw [Nat.min_eq_left h]
  · rw [Nat.min_eq_right h, List.take_length, List.take_of_length_le h]
/-! ### the law -/
def Small (d : List Int) : Prop := 1 ≤ d.length ∧ d.length ≤ 6 ∧ ∀ f ∈ d, 0 ≤ f ∧ f ≤ 20
theorem Small.good {d : List Int} (h : Small d) : good d := ⟨h.1, by have := h.2.1; omega, fun f hf => by have := h.2.2 f hf; omega⟩
theorem small_die (ns : List Int) (k : Int) {tp : Int} (h0 : 0 ≤ tp) (h1 : tp ≤ 20) : Small (dieL ns k 6 tp) := by
  obtain ⟨a, b⟩ := dieL_len ns k tp (most := 6) (by decide)
  exact ⟨a, by omega, fun f hf => by
    have := dieL_mem ns (k := k) (most := 6) h0 f hf
    exact ⟨this.1, Int.le_trans this.2 h1⟩⟩
theorem least_one {ds : List Int} {l m : Int} (h1 : l ∈ ds) (h2 : ∀ x ∈ ds, l ≤ x) (h3 : m ∈ ds) (h4 : ∀ x ∈ ds, m ≤ x) : m = l := by
  have := h2 m h3
  have := h4 l h1
  omega
theorem ex_sorted (d : List Int) : ∃ o : List Int, o.Perm d ∧ Rising o := by
  refine ⟨d.mergeSort fun x y => decide (x ≤ y), List.mergeSort_perm _ _, ?_⟩
  refine (List.pairwise_mergeSort (le := fun x y : Int => decide (x ≤ y)) (fun x y z h1 h2 => ?_) (fun x y => ?_) d).imp fun h => of_decide_eq_true h
  · exact decide_eq_true (Int.le_trans (of_decide_eq_true h1) (of_decide_eq_true h2))
  · rw [Bool.or_eq_true, decide_eq_true_eq, decide_eq_true_eq]
    exact Int.le_total x y
def spLaw (K : PySem.W.Frag) : Sp := fun vs H Q _ => ∃ (a : Addr) (ns : List Int), vs = [.ref a] ∧ SqL K H a (ns.map V.int) ∧ ns.length ≤ 63 ∧ ∀ H', Q (.bl true) H'
theorem ok_law (T : Lay K mg) : FnOk P w K mg base CX0 10 T.a_law T.d_law ["_law_script"] (spLaw K) := by
  refine T.f_law.ok sc_law (fun vs H Q E h => ?_) (fun cdv A outer s H vs Q E hr h => ?_)
  · obtain ⟨_, _, rfl, _⟩ := h
    rfl
  · obtain ⟨a, ns, rfl, hS, hlen, q⟩ := h
    refine ⟨_, (pss_cons (ps_set (i := 1) sc_law.nd rfl (Or.inl rfl) (pe_call (ok_law_draw T) (hr.mono (by decide)) (by rfl) T.g_law_draw T.f_law_draw.kp T.b_law_draw .nil pass0 (pa_cons (pv 0) (pa_cons pe_int pa_nil))))
    (pss_cons (ps_set (i := 2) sc_law.nd rfl (Or.inl rfl) (pe_ix ix_list (pe_lst (pa_cons pe_int (pa_cons pe_int (pa_cons pe_int pa_nil)))) (pe_op op_mod (pv 1) pe_int) (fun _ _ => rfl)))
    (pss_cons (ps_par (i := 3) (j := 4) (by rfl) sc_law.nd rfl rfl (by decide) rfl rfl (pa_cons (pe_call (ok_law_die T) (hr.mono (by decide)) (by rfl) T.g_law_die T.f_law_die.kp T.b_law_die .nil pass0 (pa_cons (pv 0) (pa_cons pe_int (pa_cons pe_int (pa_cons (pv 2) pa_nil))))) (pa_cons (pe_call (ok_law_die T) (hr.mono (by decide)) (by rfl) T.g_law_die T.f_law_die.kp T.b_law_die .nil pass0 (pa_cons (pv 0) (pa_cons pe_int (pa_cons pe_int (pa_cons (pv 2) pa_nil))))) pa_nil)) (by rfl))
    (pss_cons (ps_if (pt_cmpR op_eq (pe_op op_mod (pe_op op_fdiv (pv 1) pe_int) pe_int) pe_int (nomark _)) (pss_one (ps_par (i := 3) (j := 4) (by rfl) sc_law.nd rfl rfl (by decide) rfl rfl (pa_cons (pe_lst (pa_cons pe_int (pa_cons pe_int (pa_cons pe_int (pa_cons pe_int pa_nil))))) (pa_cons (pe_lst (pa_cons pe_int (pa_cons pe_int (pa_cons pe_int (pa_cons pe_int pa_nil))))) pa_nil)) (by rfl))) pss_nil)
    (pss_cons (ps_set (i := 5) sc_law.nd rfl (Or.inl rfl) (pe_lst (pa_cons (pe_callTy call_list_of (by rfl) T.n_list (by decide +kernel) (pa_cons (pv 3) pa_nil)) (pa_cons (pe_callTy call_list_of (by rfl) T.n_list (by decide +kernel) (pa_cons (pv 4) pa_nil)) pa_nil))))
    (pss_cons (ps_set (i := 6) sc_law.nd rfl (Or.inl rfl) (pe_call (ok_alike T) (hr.mono (by decide)) (by rfl) T.g_alike T.f_alike.kp T.b_alike .nil passL (pa_cons (pv 3) (pa_cons (pv 4) pa_nil))))
    (pss_cons (ps_if (PW.pt (pw_or (pt_not (pt_truth (pe_call (ok_law_good T) (hr.mono (by decide)) (by rfl) T.g_law_good T.f_law_good.kp T.b_law_good .nil pass0 (pa_cons (pv 6) (pa_cons (pv 3) (pa_cons (pv 4) pa_nil)))) (by intro _; rfl))) (pw_or1 (pt_cmpR (op_neP hr.units) (pe_lst (pa_cons (pv 3) (pa_cons (pv 4) pa_nil))) (pv 5) (nomark _))))) (pss_one (ps_ret pe_bl)) pss_nil)
    (pss_cons (ps_if (pt_cmpR (op_neP hr.units) (pe_call (ok_alike T) (hr.mono (by decide)) (by rfl) T.g_alike T.f_alike.kp T.b_alike .nil passL (pa_cons (pe_revL (pv 4)) (pa_cons (pe_revL (pv 3)) pa_nil))) (pe_callB (cr_sortedD (α := Tup Int × Tup Int) hr.units) (r := rSortedD (Tup Int × Tup Int) K) (by rfl) T.n_sorted (by decide +kernel) (pa_cons (pe_lc (own := [("_law_pair", 11)]) (g := (gName 11)) rfl sc_law.nd (pi_list (pv 6)) (blkOk_by (N := nm_law) (sc := defScope st_law) (by decide +kernel)) (fun _ _ _ _ _ => (pg_name (i := 11) sc_law.nd rfl (Or.inl rfl))) (fun _ _ _ _ _ => pts_nil) (fun _ _ _ _ _ => (pe_same (t' := tRev2 K _) (pe_rev2 (pv 11)) rfl))) pa_nil)) (nomark _)) (pss_one (ps_ret pe_bl)) pss_nil)
    (pss_cons (ps_asg (pe_tup (pa_cons (pe_op op_mod (pe_op op_fdiv (pv 1) pe_int) pe_int) (pa_cons (pe_op op_add pe_int (pe_op op_mod (pe_op op_fdiv (pv 1) pe_int) pe_int)) pa_nil))) (pg_tup rfl (pgs_cons (pg_name (i := 7) sc_law.nd rfl (Or.inr rfl)) (pgs_cons (pg_name (i := 8) sc_law.nd rfl (Or.inr rfl)) pgs_nil))))
    (pss_cons (ps_if (pt_cmpR (op_neP hr.units) (pe_call (ok_alike T) (hr.mono (by decide)) (by rfl) T.g_alike T.f_alike.kp T.b_alike .nil passL (pa_cons (pe_lc (own := [("_law_face", 12)]) (g := (gName 12)) rfl sc_law.nd (pi_list (pv 3)) (blkOk_by (N := nm_law) (sc := defScope st_law) (by decide +kernel)) (fun _ _ _ _ _ => (pg_name (i := 12) sc_law.nd rfl (Or.inl rfl))) (fun _ _ _ _ _ => pts_nil) (fun _ _ _ _ _ => (pe_op op_add (pe_op op_mul (pv 8) (pv 12)) (pv 7)))) (pa_cons (pe_lc (own := [("_law_face", 12)]) (g := (gName 12)) rfl sc_law.nd (pi_list (pv 4)) (blkOk_by (N := nm_law) (sc := defScope st_law) (by decide +kernel)) (fun _ _ _ _ _ => (pg_name (i := 12) sc_law.nd rfl (Or.inl rfl))) (fun _ _ _ _ _ => pts_nil) (fun _ _ _ _ _ => (pe_op op_mul (pv 8) (pv 12)))) pa_nil))) (pe_call (ok_law_changed T) (hr.mono (by decide)) (by rfl) T.g_law_changed T.f_law_changed.kp T.b_law_changed .nil pass0 (pa_cons (pv 6) (pa_cons (pv 8) (pa_cons (pv 7) pa_nil)))) (nomark _)) (pss_one (ps_ret pe_bl)) pss_nil)
    (pss_cons (ps_asg (pe_ix ix_list (pv 6) (pe_op op_mod (pe_call (ok_law_draw T) (hr.mono (by decide)) (by rfl) T.g_law_draw T.f_law_draw.kp T.b_law_draw .nil pass0 (pa_cons (pv 0) (pa_cons pe_int pa_nil))) (pe_callB call_len_seq (by rfl) T.n_len PySem.boot_len (pa_cons (pv 6) pa_nil))) (fun _ _ => rfl)) (pg_tup rfl (pgs_cons (pg_name (i := 9) sc_law.nd rfl (Or.inl rfl)) (pgs_cons (pg_name (i := 10) sc_law.nd rfl (Or.inl rfl)) pgs_nil))))
    (pss_cons (ps_if (PW.pt (pw_and (pt_cmpR op_lt (pe_callB (cr_maxT rfl) (by rfl) T.n_max (by decide +kernel) (pa_cons (pv 9) pa_nil)) pe_int (nomark _)) (pw_and (pt_cmpR op_lt (pe_callB (cr_maxT rfl) (by rfl) T.n_max (by decide +kernel) (pa_cons (pv 10) pa_nil)) pe_int (nomark _)) (pw_and1 (pt_cmpR (op_neP hr.units) (pe_call (ok_alike T) (hr.mono (by decide)) (by rfl) T.g_alike T.f_alike.kp T.b_alike .nil passL (pa_cons (pe_callTy call_list_of (by rfl) T.n_list (by decide +kernel) (pa_cons (pv 9) pa_nil)) (pa_cons (pe_callTy call_list_of (by rfl) T.n_list (by decide +kernel) (pa_cons (pv 10) pa_nil)) pa_nil))) (pv 6) (nomark _)))))) (pss_one (ps_ret pe_bl)) pss_nil)
    (pss_cons (ps_expr (pe_bm PySem.F.plainAttrs_list PySem.F.slot_list_append PySem.F.type_list_append mt_append (pv 6) (pa_cons pe_str pa_nil)))
    (pss_one (ps_ret (pe_cmpR (op_eqP hr.units) (pe_call (ok_alike T) (hr.mono (by decide)) (by rfl) T.g_alike T.f_alike.kp T.b_alike .nil passL (pa_cons (pv 3) (pa_cons (pv 4) pa_nil))) (pe_slice sl_list (pv 6) po_none (po_some (pe_un un_neg pe_int))) (nomark _))))))))))))))))), ?_⟩
    have h63 : ns.length ≤ 1000 := by omega
    refine ⟨_, rfl, a, ns, 0, rfl, hS, h63, by decide, by decide, fun H1 e1 => ?_⟩
    obtain ⟨num0, num1⟩ := draw_range ns 0
    generalize drawN ns 0 = num at *
    -- the top
    refine ⟨sz_ok (show 3 ≤ 1000000 by decide), ?_⟩
    intro q1 m1
    have s1 := same_new (H := H1) (o := (.lst [.int 4, .int 9, .int 20])) m1
    have hq1 := upd_same (H := H1) (a := q1) (o := (.lst [.int 4, .int 9, .int 20]))
    generalize upd H1 q1 (.lst [.int 4, .int 9, .int 20]) = H2 at *
    obtain ⟨tp, tp0, tp1, hat⟩ : ∃ tp : Int, 0 ≤ tp ∧ tp ≤ 20 ∧ atI [V.int 4, .int 9, .int 20] (num % 3) = some (.int tp) := by
      obtain h | h | h : num % 3 = 0 ∨ num % 3 = 1 ∨ num % 3 = 2 := by omega
      · rw [h]
        exact ⟨4, by decide, by decide, at_of (j := 0) rfl rfl⟩
      · rw [h]
        exact ⟨9, by decide, by decide, at_of (j := 1) rfl rfl⟩
      · rw [h]
        exact ⟨20, by decide, by decide, at_of (j := 2) rfl rfl⟩
    refine ⟨_, rfl, num, 3, rfl, rfl, md rfl, q1, _, _, .int tp, rfl, rfl, sq_of hq1, hat, ?_⟩
    -- the dice
    have hS2 := (e1.trans s1).seq hS
    refine ⟨_, rfl, _, rfl, a, ns, 1, 6, tp, rfl, hS2, h63, by decide, by decide, by decide, by decide, tp0, by omega, fun H3 p1 e3 np1 hp1 => ?_⟩
    refine ⟨_, rfl, _, rfl, a, ns, 11, 6, tp, rfl, e3.seq hS2, h63, by decide, by decide, by decide, by decide, tp0, by omega, fun H4 p2 e4 np2 hp2 => ?_⟩
    refine ⟨_, _, rfl, ?_⟩
    have hS4 := (e3.trans e4).seq hS2
    have w1 := small_die ns 1 tp0 tp1
    have w2 := small_die ns 11 tp0 tp1
    refine ⟨_, rfl, num, 3, rfl, rfl, dv rfl, _, 4, rfl, rfl, md rfl, rfl, _, rfl, ?_⟩
    refine iteC (H := H4) (fun σ' H' => ∃ (x y : Addr) (ds es : List Int) (y5 y6 y7 y8 y9 y10 y11 y12 : Option V), σ' = [some (.ref a), some (.int num), some (.int tp), some (.ref x), some (.ref y), y5, y6, y7, y8, y9, y10, y11, y12] ∧ H' x = some (.lst (ds.map V.int)) ∧ H' y = some (.lst (es.map V.int)) ∧ Small ds ∧ Small es) (fun σ' H5 e5 g5 => ?_)
      ⟨p1, p2, _, _, _, _, _, _, _, _, _, _, rfl, e4 _ _ hp1, hp2, w1, w2⟩ (fun _ k => ?_)
    · obtain ⟨x, y, ds, es, y5, y6, y7, y8, y9, y10, y11, y12, rfl, hx, hy, sd, se⟩ := g5
      have hS5 := e5.seq hS4
      clear e1 e3 e4 e5 s1 hq1 hp1 hp2 np1 np2 w1 w2 m1 hS2 hS4 hat hS
      -- kept
      refine ⟨_, rfl, x, _, rfl, .inl (sq_of hx), ?_⟩
      intro k1 nk1
      have t1 := same_new (H := H5) (o := (.lst (ds.map V.int))) nk1
      have hk1 := upd_same (H := H5) (a := k1) (o := (.lst (ds.map V.int)))
      generalize upd H5 k1 (.lst (ds.map V.int)) = H6 at *
      refine ⟨_, rfl, y, _, rfl, .inl (sq_of (t1 _ _ hy)), ?_⟩
      intro k2 nk2
      have t2 := same_new (H := H6) (o := (.lst (es.map V.int))) nk2
      have hk2 := upd_same (H := H6) (a := k2) (o := (.lst (es.map V.int)))
      generalize upd H6 k2 (.lst (es.map V.int)) = H7 at *
      refine ⟨sz_ok (show 2 ≤ 1000000 by decide), ?_⟩
      intro kx nkx
      have t3 := same_new (H := H7) (o := (.lst [.ref k1, .ref k2])) nkx
      have hkx := upd_same (H := H7) (a := kx) (o := (.lst [.ref k1, .ref k2]))
      generalize upd H7 kx (.lst [.ref k1, .ref k2]) = H8 at *
      have hK : DiceAt H8 kx [k1, k2] [ds, es] := ⟨hkx, .cons (t3 _ _ (t2 _ _ hk1)) (.cons (t3 _ _ hk2) .nil)⟩
      have t58 := (t1.trans t2).trans t3
      have hx8 := t58 _ _ hx
      have hy8 := t58 _ _ hy
      have hS8 := t58.seq hS5
      clear t1 t2 t3 t58 hk1 hk2 hkx hx hy hS5
      -- found
      have b1 := sd.1
      have b2 := se.1
      have l1 := sd.2.1
      have l2 := se.2.1
      refine ⟨_, rfl, _, rfl, ?_⟩
      dsimp only [tNil]
      refine alike_call hx8 hy8 sd.good se.good l1 l2 fun l H9 p ps hl1 hl2 e9 np hP h1024 aP => ?_
      have hx9 := e9 _ _ hx8
      have hy9 := e9 _ _ hy8
      have hK9 := hK.mono e9
      have hS9 := e9.seq hS8
      have hl0 : 0 ≤ l := (sd.2.2 l hl1).1
      have npx : x ≠ p := fun z => by rw [z, np] at hx8; cases hx8
      have npy : y ≠ p := fun z => by rw [z, np] at hy8; cases hy8
      clear hx8 hy8 hK hS8
      refine ⟨_, rfl, _, rfl, _, rfl, p, x, y, ds, es, ps, l, rfl, hx9, hy9, sd.good, se.good, l1, l2, hP, h1024, hl1, hl2, aP, fun H10 e10 => ⟨true, rfl, ?_⟩⟩
      refine ⟨_, rfl, _, rfl, sz_ok (show 2 ≤ 1000000 by decide), ?_⟩
      intro kz nkz
      have t11 := same_new (H := H10) (o := (.lst [.ref x, .ref y])) nkz
      have hkz := upd_same (H := H10) (a := kz) (o := (.lst [.ref x, .ref y]))
      generalize upd H10 kz (.lst [.ref x, .ref y]) = H11 at *
      have e911 := e10.trans t11
      have hx11 := e911 _ _ hx9
      have hy11 := e911 _ _ hy9
      have hZ : DiceAt H11 kz [x, y] [ds, es] := ⟨hkz, .cons hx11 (.cons hy11 .nil)⟩
      refine ⟨_, rfl, ne_is (α := List (List Int)) (is_dice hZ) (is_dice (hK9.mono e911)) ⟨_, rfl, iteND (fun z => absurd rfl z) fun _ => ?_⟩⟩
      have hP11 : PairsAt H11 p ps := ⟨e911 _ _ hP.1, fun z hz => (hP.2 z hz).keeps fun b ys y => e911 _ _ y⟩
      have hS11 := e911.seq hS9
      clear hkz hZ e10 t11 hK9 hx9 hy9 hS9 hP
      -- exchanged
      refine ⟨_, rfl, y, _, rfl, sq_of hy11, ?_⟩
      rw [← List.map_reverse]
      intro r1 nr1
      have u1 := same_new (H := H11) (o := (.lst (es.reverse.map V.int))) nr1
      have hr1 := upd_same (H := H11) (a := r1) (o := (.lst (es.reverse.map V.int)))
      generalize upd H11 r1 (.lst (es.reverse.map V.int)) = H12 at *
      refine ⟨_, rfl, x, _, rfl, sq_of (u1 _ _ hx11), ?_⟩
      rw [← List.map_reverse]
      intro r2 nr2
      have u2 := same_new (H := H12) (o := (.lst (ds.reverse.map V.int))) nr2
      have hr2 := upd_same (H := H12) (a := r2) (o := (.lst (ds.reverse.map V.int)))
      generalize upd H12 r2 (.lst (ds.reverse.map V.int)) = H13 at *
      have back : ∀ d : List Int, Small d → good d.reverse := fun d h => ⟨by rw [List.length_reverse]; exact h.1, by have := h.2.1; rw [List.length_reverse]; omega, fun f hf => by have := h.2.2 f (List.mem_reverse.mp hf); omega⟩
      dsimp only [tNil]
      refine alike_call (u2 _ _ hr1) hr2 (back es se) (back ds sd) (by rw [List.length_reverse]; exact l2) (by rw [List.length_reverse]; exact l1) fun l' H14 r rs hb1 hb2 e14 nr hR r1024 aR => ?_
      have f1 : l' ∈ es := List.mem_reverse.mp hb1
      have f2 : ∀ z ∈ es, l' ≤ z := fun z hz => hb2 z (List.mem_reverse.mpr hz)
      have hb0 : 0 ≤ l' := (se.2.2 l' f1).1
      rw [cnt_back, List.length_reverse, List.length_reverse] at aR
      have e1114 := (u1.trans u2).trans e14
      have hP14 : PairsAt H14 p ps := ⟨e1114 _ _ hP11.1, fun z hz => (hP11.2 z hz).keeps fun b ys y => e1114 _ _ y⟩
      clear hr1 hr2 u1 u2 hb1 hb2 back
      refine ⟨_, rfl, p, rfl, ⟨_, sq_of hP14.1⟩, fun D nD => ?_⟩
      refine lc_swaps (K := K) (fun z => (z.2, z.1)) nD hP14 h1024 (fun z H' R hz hpz r N => ?_) (fun H15 us e15 hU eU => ?_)
      · obtain ⟨c1, c2, h0, h1, h2⟩ := hpz
        exact ⟨rfl, iteT (B := N H') ⟨_, rfl, z.1, .ref c1, .ref c2, rfl, st_of h0, fun t nt => r _ t (same_new nt) ⟨c2, c1, upd_same, same_new nt _ _ h2, same_new nt _ _ h1⟩⟩⟩
      dsimp only [tNil]
      refine sortD_pairs hU fun ms r2 pm srt nr2 => ?_
      have s16 := same_new (o := .lst (ms.map fun x => V.ref x.1)) nr2
      have hr16 := upd_same (H := H15) (a := r2) (o := .lst (ms.map fun x => V.ref x.1))
      generalize upd H15 r2 (.lst (ms.map fun x => V.ref x.1)) = H16 at *
      have e1416 := e15.trans s16
      have hM16 : PairsAt H16 r2 ms := ⟨hr16, fun z hz => (hU.2 z (pm.mem_iff.mp hz)).keeps fun b ys y => s16 _ _ y⟩
      have hR16 : PairsAt H16 r rs := ⟨e1416 _ _ hR.1, fun z hz => (hR.2 z hz).keeps fun b ys y => e1416 _ _ y⟩
      obtain ⟨c1, c2⟩ := cnt_least hl1 hl2 f1 f2
      rw [← cnt_throws] at c1 c2
      have same : rs.map (·.2) = ms.map (·.2) := by
        have un : (us.map (·.2)).Nodup := by
          rw [eU]
          refine List.pairwise_map.mpr ((pairs_un aP.rise).imp fun {x y} ne e => ne ?_)
          exact Prod.ext (congrArg Prod.snd e) (congrArg Prod.fst e)
        refine pairs_one aR (all_exch aP b1 b2 c1 c2 hl0 hb0 (fun q => ?_) (strict_of ((pm.map _).nodup_iff.mpr un) (List.pairwise_map.mpr srt)))
        rw [(pm.map (·.2)).mem_iff, eU, List.mem_map]
        constructor
        · rintro ⟨z, hz, rfl⟩
          exact hz
        · intro hz
          exact ⟨_, hz, rfl⟩
      refine ne_is (α := List (Tup Int × Tup Int)) (is_list (sq_of hR16.1) (pairs_are hR16.2)) (is_list (sq_of hM16.1) (pairs_are hM16.2)) ⟨_, rfl, iteND (fun z => absurd (by rw [pairs_dp, pairs_dp, same]) z) fun _ => ?_⟩
      have e1116 := e1114.trans e1416
      have hx16 := e1116 _ _ hx11
      have hy16 := e1116 _ _ hy11
      have hS16 := e1116.seq hS11
      have hP16 : PairsAt H16 p ps := ⟨e1116 _ _ hP11.1, fun z hz => (hP11.2 z hz).keeps fun b ys y => e1116 _ _ y⟩
      clear same hM16 hR16 hr16 s16 e15 e14 hU eU e1416 e1116 hP14 e1114 hx11 hy11 hS11 hP11 aR hR nr nr2 pm srt r1024 c1 c2
      -- changed
      refine ⟨_, rfl, num, 16, rfl, rfl, dv rfl, _, 19, rfl, rfl, md rfl, _, rfl, num, 512, rfl, rfl, dv rfl, _, 4, rfl, rfl, md rfl, 1, _, rfl, rfl, sz_ok (show 2 ≤ 1000000 by decide), ?_⟩
      dsimp only
      have lf : 0 ≤ num / 16 % 19 ∧ num / 16 % 19 ≤ 18 := by omega
      have bf : 1 ≤ 1 + num / 512 % 4 ∧ 1 + num / 512 % 4 ≤ 4 := by omega
      generalize num / 16 % 19 = t at *
      generalize 1 + num / 512 % 4 = b at *
      obtain ⟨lf0, lf1⟩ := lf
      obtain ⟨bf0, bf1⟩ := bf
      intro tt ntt
      have v1 := same_new (H := H16) (o := (.tup [.int t, .int b])) ntt
      have htt := upd_same (H := H16) (a := tt) (o := (.tup [.int t, .int b]))
      generalize upd H16 tt (.tup [.int t, .int b]) = H17 at *
      refine ⟨tt, _, rfl, st_of htt, rfl, _, _, rfl, _, _, rfl, rfl, ?_⟩
      have hx17 := v1 _ _ hx16
      have hy17 := v1 _ _ hy16
      refine ⟨_, rfl, x, rfl, ⟨_, sq_of hx17⟩, fun D nD => ?_⟩
      refine lc_all (K := K) (timesV b t) nD (sq_of hx17) (by rw [List.length_map]; omega) (fun x H' R hx e r N => ?_) (fun H18 e18 hD18 => ?_)
      · obtain ⟨f, _, rfl⟩ := List.mem_map.mp hx
        exact ⟨rfl, iteT (B := N H') ⟨_, rfl, _, rfl, b, f, rfl, rfl, .inl ⟨by omega, by omega⟩, _, rfl, _, t, rfl, rfl, r H' (Same.refl H')⟩⟩
      have m1 : (ds.map V.int).map (timesV b t) = (ds.map fun f => b * f + t).map V.int := by
        rw [List.map_map, List.map_map]
        rfl
      rw [m1] at hD18
      have hy18 := e18 _ _ hy17
      refine ⟨_, rfl, y, rfl, ⟨_, sq_of hy18⟩, fun D2 nD2 => ?_⟩
      refine lc_all (K := K) (times0V b) nD2 (sq_of hy18) (by rw [List.length_map]; omega) (fun x H' R hx e r N => ?_) (fun H19 e19 hD19 => ?_)
      · obtain ⟨f, _, rfl⟩ := List.mem_map.mp hx
        exact ⟨rfl, iteT (B := N H') ⟨_, rfl, _, rfl, b, f, rfl, rfl, .inl ⟨by omega, by omega⟩, r H' (Same.refl H')⟩⟩
      have m2 : (es.map V.int).map (times0V b) = (es.map fun f => b * f).map V.int := by
        rw [List.map_map, List.map_map]
        rfl
      rw [m2] at hD19
      have top : ∀ f : Int, 0 ≤ f ∧ f ≤ 20 → 0 ≤ b * f ∧ b * f ≤ 80 := fun f hf => ⟨Int.mul_nonneg (by omega) hf.1, Int.le_trans (Int.mul_le_mul bf1 hf.2 hf.1 (by decide)) (by decide)⟩
      have gd1 : good (ds.map fun f => b * f + t) := ⟨by rw [List.length_map]; exact b1, by rw [List.length_map]; omega, fun z hz => by
        obtain ⟨f, hf, rfl⟩ := List.mem_map.mp hz
        have := top f (sd.2.2 f hf)
        omega⟩
      have gd2 : good (es.map fun f => b * f) := ⟨by rw [List.length_map]; exact b2, by rw [List.length_map]; omega, fun z hz => by
        obtain ⟨f, hf, rfl⟩ := List.mem_map.mp hz
        have := top f (se.2.2 f hf)
        omega⟩
      dsimp only [tNil]
      refine alike_call (e19 _ _ hD18) hD19 gd1 gd2 (by rw [List.length_map]; exact l1) (by rw [List.length_map]; exact l2) fun l2' H20 r rs hb1 hb2 e20 nr hR r1024 aR => ?_
      have el : l2' = b * l + t := least_one (List.mem_map.mpr ⟨l, hl1, rfl⟩) (fun z hz => by
        obtain ⟨f, hf, rfl⟩ := List.mem_map.mp hz
        have := lt_times bf0 t f l
        have := hl2 f hf
        omega) hb1 hb2
      rw [List.length_map, List.length_map, el] at aR
      have e1620 := ((v1.trans e18).trans e19).trans e20
      have hP20 : PairsAt H20 p ps := ⟨e1620 _ _ hP16.1, fun z hz => (hP16.2 z hz).keeps fun b ys y => e1620 _ _ y⟩
      refine ⟨_, rfl, _, rfl, _, rfl, p, ps, b, t, rfl, hP20, h1024, fun z hz => ?_, by omega, by omega, fun H21 u us e21 nu hU eU => ?_⟩
      · have Q := (aP.mem z.2).mp (List.mem_map.mpr ⟨z, hz, rfl⟩)
        exact ⟨by rw [Q.one]; exact l1, by rw [Q.other]; exact l2⟩
      have hR21 : PairsAt H21 r rs := ⟨e21 _ _ hR.1, fun z hz => (hR.2 z hz).keeps fun b ys y => e21 _ _ y⟩
      have same : rs.map (·.2) = us.map (·.2) := by
        rw [eU]
        exact pairs_one aR (all_times bf0 hl1 hl2 f1 f2 aP)
      refine ne_is (α := List (Tup Int × Tup Int)) (is_list (sq_of hR21.1) (pairs_are hR21.2)) (is_list (sq_of hU.1) (pairs_are hU.2)) ⟨_, rfl, iteND (fun z => absurd (by rw [pairs_dp, pairs_dp, same]) z) fun _ => ?_⟩
      have e1621 := e1620.trans e21
      have hx21 := e1621 _ _ hx16
      have hy21 := e1621 _ _ hy16
      have hS21 := e1621.seq hS16
      have hP21 : PairsAt H21 p ps := ⟨e1621 _ _ hP16.1, fun z hz => (hP16.2 z hz).keeps fun b ys y => e1621 _ _ y⟩
      clear same hR21 hU eU hP20 e1620 e1621 hR aR e20 e19 e18 hD18 hD19 hx17 hy17 hy18 m1 m2 v1 htt hx16 hy16 hS16 hP16 gd1 gd2 top e21 el hb1 hb2
      -- told again
      have some1 : 0 < ps.length := by
        obtain ⟨o1, p1, r1⟩ := ex_sorted ds
        obtain ⟨o2, p2, r2⟩ := ex_sorted es
        have := (aP.mem _).mpr (sorted_pair hl1 hl2 (fun f hf => (se.2.2 f hf).1) p1 p2 r1 r2)
        have := List.length_pos_of_mem this
        rw [List.length_map] at this
        exact this
      refine ⟨_, rfl, _, rfl, a, ns, 30, rfl, hS21, h63, by decide, by decide, fun H22 e22 => ?_⟩
      have hP22 : PairsAt H22 p ps := ⟨e22 _ _ hP21.1, fun z hz => (hP21.2 z hz).keeps fun b ys y => e22 _ _ y⟩
      have len2 : (ps.map fun z => V.ref z.1).length = ps.length := List.length_map _
      refine ⟨_, rfl, p, _, rfl, .inl (sq_of hP22.1), _, _, rfl, rfl, by rw [len2]; omega, ?_⟩
      rw [len2]
      dsimp only
      have i0 : 0 ≤ drawN ns 30 % (ps.length : Int) := Int.emod_nonneg _ (by omega)
      have i1 : drawN ns 30 % (ps.length : Int) < (ps.length : Int) := Int.emod_lt_of_pos _ (by omega)
      generalize drawN ns 30 % (ps.length : Int) = ix at *
      obtain ⟨k, rfl⟩ : ∃ k : Nat, ix = (k : Int) := ⟨ix.toNat, by omega⟩
      have kz : ps[k]? = some ps[k] := List.getElem?_eq_getElem (by omega)
      generalize ps[k] = z at kz
      have hz := List.mem_of_getElem? kz
      have hI := (aP.mem z.2).mp (List.mem_map.mpr ⟨z, hz, rfl⟩)
      obtain ⟨f, g, h0, hf, hg⟩ := hP22.2 z hz
      obtain ⟨zp, F, G⟩ := z
      have hf : H22 f = some (.tup (F.map V.int)) := hf
      have hg : H22 g = some (.tup (G.map V.int)) := hg
      have la : F.length = ds.length := hI.one
      have lb : G.length = es.length := hI.other
      refine ⟨p, _, (k : Int), .ref zp, rfl, rfl, sq_of hP22.1, atI_nat (by rw [List.getElem?_map, kz]; rfl), zp, _, rfl, st_of h0, rfl, _, _, rfl, _, _, rfl, rfl, ?_⟩
      have hx22 := e22 _ _ hx21
      have hy22 := e22 _ _ hy21
      clear hP21 hx21 hy21 hS21 e22
      refine if_false (H := H22) (fun Qb qf => ?_) (fun H23 e23 => ?_)
      · refine ⟨_, rfl, f, F, rfl, st_of hf, by omega, fun m1 hm1 hn1 => ⟨m1, 100, rfl, rfl, _, rfl, iteD (fun c1 => ?_) (fun _ => qf _ (Same.refl _))⟩⟩
        refine ⟨_, rfl, g, G, rfl, st_of hg, by omega, fun m2 hm2 hn2 => ⟨m2, 100, rfl, rfl, _, rfl, iteD (fun c2 => ?_) (fun _ => qf _ (Same.refl _))⟩⟩
        refine ⟨_, rfl, f, _, rfl, .inr (st_of hf), ?_⟩
        intro g1 ng1
        have v1 := same_new (H := H22) (o := (.lst (F.map V.int))) ng1
        have hg1 := upd_same (H := H22) (a := g1) (o := (.lst (F.map V.int)))
        generalize upd H22 g1 (.lst (F.map V.int)) = H24 at *
        refine ⟨_, rfl, g, _, rfl, .inr (st_of (v1 _ _ hg)), ?_⟩
        intro g2 ng2
        have v2 := same_new (H := H24) (o := (.lst (G.map V.int))) ng2
        have hg2 := upd_same (H := H24) (a := g2) (o := (.lst (G.map V.int)))
        generalize upd H24 g2 (.lst (G.map V.int)) = H25 at *
        obtain ⟨o1, o2⟩ := least_head hI.head hI.r1
        have gF : good F := ⟨by omega, by omega, fun u hu => by
          have := o2 u hu
          have := hn1 u hu
          omega⟩
        have gG : good G := ⟨by omega, by omega, fun u hu => by
          have := hI.zero u hu
          have := hn2 u hu
          omega⟩
        dsimp only [tNil]
        refine alike_call (v2 _ _ hg1) hg2 gF gG (by omega) (by omega) fun l2' H26 r rs hb1 hb2 e26 nr hR r1024 aR => ?_
        have w26 := (v1.trans v2).trans e26
        have hP26 : PairsAt H26 p ps := ⟨w26 _ _ hP22.1, fun z hz => (hP22.2 z hz).keeps fun b ys y => w26 _ _ y⟩
        have el : l2' = l := least_one o1 o2 hb1 hb2
        have ec : cntT (throwsL [F, G]) = cntT (throwsL [ds, es]) := by
          rw [cnt_throws]
          exact hI.cnt
        rw [el, ec, la, lb] at aR
        have same := pairs_one aR aP
        refine ⟨_, rfl, ne_is (α := List (Tup Int × Tup Int)) (is_list (sq_of hR.1) (pairs_are hR.2)) (is_list (sq_of hP26.1) (pairs_are hP26.2)) ⟨_, rfl, ?_⟩⟩
        rw [decide_eq_true (show (rs.map fun z => dpT z.2) = ps.map fun z => dpT z.2 by rw [pairs_dp, pairs_dp, same])]
        exact qf _ w26
      · have hx23 := e23 _ _ hx22
        have hy23 := e23 _ _ hy22
        have hP23 : PairsAt H23 p ps := ⟨e23 _ _ hP22.1, fun z hz => (hP22.2 z hz).keeps fun b ys y => e23 _ _ y⟩
        -- one more, and cut off again
        refine ⟨_, rfl, .inl ⟨rfl, _, sq_of hP23.1⟩, p, _, .str "more", rfl, rfl, hP23.1, sz_lt (by rw [len2]; omega), ?_⟩
        have hp24 := upd_same (H := H23) (a := p) (o := .lst (ps.map (fun z => V.ref z.1) ++ [.str "more"]))
        have old : ∀ c o, c ≠ p → H23 c = some o → (upd H23 p (.lst (ps.map (fun z => V.ref z.1) ++ [.str "more"]))) c = some o := fun c o nc y => by
          rw [upd_ne nc]
          exact y
        have hx24 := old _ _ npx hx23
        have hy24 := old _ _ npy hy23
        have hps : ∀ z ∈ ps, PairAt (upd H23 p (.lst (ps.map (fun z => V.ref z.1) ++ [.str "more"]))) z.1 z.2 := fun z hz => (hP23.2 z hz).keeps fun c ys y => old c _ (fun e => by rw [e, hP23.1] at y; cases y) y
        generalize upd H23 p (.lst (ps.map (fun z => V.ref z.1) ++ [.str "more"])) = H24 at *
        refine ⟨_, rfl, _, rfl, ?_⟩
        dsimp only [tNil]
        refine alike_call hx24 hy24 sd.good se.good l1 l2 fun l2' H25 r rs hb1 hb2 e25 nr hR r1024 aR => ?_
        have el : l2' = l := least_one hl1 hl2 hb1 hb2
        rw [el] at aR
        have same := pairs_one aR aP
        refine ⟨_, rfl, 1, rfl, -1, rfl, p, _, rfl, sq_of (e25 _ _ hp24), ?_⟩
        rw [cut_last]
        intro cp ncp
        have v26 := same_new (H := H25) (o := (.lst (ps.map fun z => V.ref z.1))) ncp
        have hcp := upd_same (H := H25) (a := cp) (o := (.lst (ps.map fun z => V.ref z.1)))
        generalize upd H25 cp (.lst (ps.map fun z => V.ref z.1)) = H26 at *
        have w26 := e25.trans v26
        refine eq_is (α := List (Tup Int × Tup Int)) (is_list (sq_of (v26 _ _ hR.1)) (pairs_are fun z hz => (hR.2 z hz).keeps fun b ys y => v26 _ _ y)) (is_list (sq_of hcp) (pairs_are fun z hz => (hps z hz).keeps fun b ys y => w26 _ _ y)) ?_
        rw [decide_eq_true (show (rs.map fun z => dpT z.2) = ps.map fun z => dpT z.2 by rw [pairs_dp, pairs_dp, same])]
        exact q _
    · refine ⟨sz_ok (show 4 ≤ 1000000 by decide), ?_⟩
      intro x nx
      have s5 := same_new (H := H4) (o := (.lst [.int 3, .int 1, .int 2, .int 4])) nx
      have hx := upd_same (H := H4) (a := x) (o := (.lst [.int 3, .int 1, .int 2, .int 4]))
      generalize upd H4 x (.lst [.int 3, .int 1, .int 2, .int 4]) = H5 at *
      refine ⟨sz_ok (show 4 ≤ 1000000 by decide), ?_⟩
      intro y ny
      have s6 := same_new (H := H5) (o := (.lst [.int 2, .int 3, .int 1, .int 4])) ny
      have hy := upd_same (H := H5) (a := y) (o := (.lst [.int 2, .int 3, .int 1, .int 4]))
      generalize upd H5 y (.lst [.int 2, .int 3, .int 1, .int 4]) = H6 at *
      refine ⟨_, _, rfl, k _ H6 (s5.trans s6) ⟨x, y, [3, 1, 2, 4], [2, 3, 1, 4], _, _, _, _, _, _, _, _, rfl, s6 _ _ hx, hy, ⟨by decide, by decide, by decide⟩, ⟨by decide, by decide, by decide⟩⟩⟩
end
end My

namespace My
open PySem PySem.Spec PyProof.Rows L2
def lay_mk {K : PySem.W.Frag} {h : Heap} {mg : Str → Option Value} (X : K.In h) (G : h.Ns mainGlobals mg)
    {t_MOST_FACES : Tok}
    {t_GREATEST_FACE : Tok}
    {t_MOST_DICE : Tok}
    {t_MOST_PAIR_FACES : Tok}
    {t_GREATEST_SUM : Tok}
    {a_DiceError : Addr}
    {a_BadDie : Addr}
    {a_BadDice : Addr}
    {a_BadNumber : Addr}
    {a_BadCounts : Addr}
    {o_is_number : Option Addr} {w_is_number : Option Addr} {q_is_number : Array (Option Value)} {i_is_number j_is_number u_is_number v_is_number r_is_number y_is_number : Value} {a_is_number : Addr}
    {o_is_face : Option Addr} {w_is_face : Option Addr} {q_is_face : Array (Option Value)} {i_is_face j_is_face u_is_face v_is_face r_is_face y_is_face : Value} {a_is_face : Addr}
    {o_is_die : Option Addr} {w_is_die : Option Addr} {q_is_die : Array (Option Value)} {i_is_die j_is_die u_is_die v_is_die r_is_die y_is_die : Value} {a_is_die : Addr}
    {o_need_die : Option Addr} {w_need_die : Option Addr} {q_need_die : Array (Option Value)} {i_need_die j_need_die u_need_die v_need_die r_need_die y_need_die : Value} {a_need_die : Addr}
    {o_need_dice : Option Addr} {w_need_dice : Option Addr} {q_need_dice : Array (Option Value)} {i_need_dice j_need_dice u_need_dice v_need_dice r_need_dice y_need_dice : Value} {a_need_dice : Addr}
    {o_counts : Option Addr} {w_counts : Option Addr} {q_counts : Array (Option Value)} {i_counts j_counts u_counts v_counts r_counts y_counts : Value} {a_counts : Addr}
    {o_ways_with : Option Addr} {w_ways_with : Option Addr} {q_ways_with : Array (Option Value)} {i_ways_with j_ways_with u_ways_with v_ways_with r_ways_with y_ways_with : Value} {a_ways_with : Addr}
    {o_pairs_of : Option Addr} {w_pairs_of : Option Addr} {q_pairs_of : Array (Option Value)} {i_pairs_of j_pairs_of u_pairs_of v_pairs_of r_pairs_of y_pairs_of : Value} {a_pairs_of : Addr}
    {o_alike : Option Addr} {w_alike : Option Addr} {q_alike : Array (Option Value)} {i_alike j_alike u_alike v_alike r_alike y_alike : Value} {a_alike : Addr}
    {o_need_many_faces : Option Addr} {w_need_many_faces : Option Addr} {q_need_many_faces : Array (Option Value)} {i_need_many_faces j_need_many_faces u_need_many_faces v_need_many_faces r_need_many_faces y_need_many_faces : Value} {a_need_many_faces : Addr}
    {o_need_pair_die : Option Addr} {w_need_pair_die : Option Addr} {q_need_pair_die : Array (Option Value)} {i_need_pair_die j_need_pair_die u_need_pair_die v_need_pair_die r_need_pair_die y_need_pair_die : Value} {a_need_pair_die : Addr}
    {o_need_counts : Option Addr} {w_need_counts : Option Addr} {q_need_counts : Array (Option Value)} {i_need_counts j_need_counts u_need_counts v_need_counts r_need_counts y_need_counts : Value} {a_need_counts : Addr}
    {o_is_row : Option Addr} {w_is_row : Option Addr} {q_is_row : Array (Option Value)} {i_is_row j_is_row u_is_row v_is_row r_is_row y_is_row : Value} {a_is_row : Addr}
    {o_with_a_face_more : Option Addr} {w_with_a_face_more : Option Addr} {q_with_a_face_more : Array (Option Value)} {i_with_a_face_more j_with_a_face_more u_with_a_face_more v_with_a_face_more r_with_a_face_more y_with_a_face_more : Value} {a_with_a_face_more : Addr}
    {o_without : Option Addr} {w_without : Option Addr} {q_without : Array (Option Value)} {i_without j_without u_without v_without r_without y_without : Value} {a_without : Addr}
    {o_law_draw : Option Addr} {w_law_draw : Option Addr} {q_law_draw : Array (Option Value)} {i_law_draw j_law_draw u_law_draw v_law_draw r_law_draw y_law_draw : Value} {a_law_draw : Addr}
    {o_law_die : Option Addr} {w_law_die : Option Addr} {q_law_die : Array (Option Value)} {i_law_die j_law_die u_law_die v_law_die r_law_die y_law_die : Value} {a_law_die : Addr}
    {o_law_throws : Option Addr} {w_law_throws : Option Addr} {q_law_throws : Array (Option Value)} {i_law_throws j_law_throws u_law_throws v_law_throws r_law_throws y_law_throws : Value} {a_law_throws : Addr}
    {o_law_counted : Option Addr} {w_law_counted : Option Addr} {q_law_counted : Array (Option Value)} {i_law_counted j_law_counted u_law_counted v_law_counted r_law_counted y_law_counted : Value} {a_law_counted : Addr}
    {o_law_good : Option Addr} {w_law_good : Option Addr} {q_law_good : Array (Option Value)} {i_law_good j_law_good u_law_good v_law_good r_law_good y_law_good : Value} {a_law_good : Addr}
    {o_law_changed : Option Addr} {w_law_changed : Option Addr} {q_law_changed : Array (Option Value)} {i_law_changed j_law_changed u_law_changed v_law_changed r_law_changed y_law_changed : Value} {a_law_changed : Addr}
    {o_law : Option Addr} {w_law : Option Addr} {q_law : Array (Option Value)} {i_law j_law u_law v_law r_law y_law : Value} {a_law : Addr}
    (n_isinstance : PySem.W.nsIn K mainGlobals "isinstance" = some none)
    (n_int : PySem.W.nsIn K mainGlobals "int" = some none)
    (n_bool : PySem.W.nsIn K mainGlobals "bool" = some none)
    (n_list : PySem.W.nsIn K mainGlobals "list" = some none)
    (n_len : PySem.W.nsIn K mainGlobals "len" = some none)
    (n_all : PySem.W.nsIn K mainGlobals "all" = some none)
    (n_sorted : PySem.W.nsIn K mainGlobals "sorted" = some none)
    (n_dict : PySem.W.nsIn K mainGlobals "dict" = some none)
    (n_range : PySem.W.nsIn K mainGlobals "range" = some none)
    (n_min : PySem.W.nsIn K mainGlobals "min" = some none)
    (n_zip : PySem.W.nsIn K mainGlobals "zip" = some none)
    (n_sum : PySem.W.nsIn K mainGlobals "sum" = some none)
    (n_tuple : PySem.W.nsIn K mainGlobals "tuple" = some none)
    (n_set : PySem.W.nsIn K mainGlobals "set" = some none)
    (n_max : PySem.W.nsIn K mainGlobals "max" = some none)
    (n_ValueError : PySem.W.nsIn K mainGlobals "ValueError" = some none)
    (c_MOST_FACES : PySem.W.nsIn K mainGlobals "MOST_FACES" = some (some (.int 8 t_MOST_FACES)))
    (c_GREATEST_FACE : PySem.W.nsIn K mainGlobals "GREATEST_FACE" = some (some (.int 99 t_GREATEST_FACE)))
    (c_MOST_DICE : PySem.W.nsIn K mainGlobals "MOST_DICE" = some (some (.int 4 t_MOST_DICE)))
    (c_MOST_PAIR_FACES : PySem.W.nsIn K mainGlobals "MOST_PAIR_FACES" = some (some (.int 6 t_MOST_PAIR_FACES)))
    (c_GREATEST_SUM : PySem.W.nsIn K mainGlobals "GREATEST_SUM" = some (some (.int 198 t_GREATEST_SUM)))
    (hn : PySem.W.specialIn K (.builtin "object.__class__") "__get__" = some (some (.builtin "getset_descriptor.__get__")))
    (ht : PySem.W.takesIn K (.builtin "object.__class__") = some true)
    (g_DiceError : PySem.W.nsIn K mainGlobals "DiceError" = some (some (.ref a_DiceError)))
    (x_DiceError : PySem.W.excIn K a_DiceError [.type "ValueError", .type "Exception", .type "BaseException", .type "object"] "ValueError.__new__" = true)
    (k_DiceError : PySem.W.keepIn K (.ref a_DiceError) = true)
    (b_DiceError : PySem.W.subIn K (.ref a_DiceError) (.type "BaseException") = some true)
    (t_DiceError : PySem.W.typeIn K (.ref a_DiceError) = some (.type "type"))
    (hg_DiceError : PySem.W.findIn K (.ref a_DiceError) "__getattribute__" = some (some (.builtin "BaseException.__getattribute__")))
    (hk_DiceError : PySem.W.findIn K (.ref a_DiceError) "__getattr__" = some none)
    (hd_DiceError : PySem.W.hasDictIn K a_DiceError = true)
    (ha_DiceError : PySem.W.findIn K (.ref a_DiceError) "__class__" = some (some (.builtin "object.__class__")))
    (hm_DiceError : PySem.W.mroIn K a_DiceError (.type "object") = some true)
    (g_BadDie : PySem.W.nsIn K mainGlobals "BadDie" = some (some (.ref a_BadDie)))
    (x_BadDie : PySem.W.excIn K a_BadDie [.type "ValueError", .type "Exception", .type "BaseException", .type "object"] "ValueError.__new__" = true)
    (k_BadDie : PySem.W.keepIn K (.ref a_BadDie) = true)
    (b_BadDie : PySem.W.subIn K (.ref a_BadDie) (.type "BaseException") = some true)
    (t_BadDie : PySem.W.typeIn K (.ref a_BadDie) = some (.type "type"))
    (hg_BadDie : PySem.W.findIn K (.ref a_BadDie) "__getattribute__" = some (some (.builtin "BaseException.__getattribute__")))
    (hk_BadDie : PySem.W.findIn K (.ref a_BadDie) "__getattr__" = some none)
    (hd_BadDie : PySem.W.hasDictIn K a_BadDie = true)
    (ha_BadDie : PySem.W.findIn K (.ref a_BadDie) "__class__" = some (some (.builtin "object.__class__")))
    (hm_BadDie : PySem.W.mroIn K a_BadDie (.type "object") = some true)
    (g_BadDice : PySem.W.nsIn K mainGlobals "BadDice" = some (some (.ref a_BadDice)))
    (x_BadDice : PySem.W.excIn K a_BadDice [.type "ValueError", .type "Exception", .type "BaseException", .type "object"] "ValueError.__new__" = true)
    (k_BadDice : PySem.W.keepIn K (.ref a_BadDice) = true)
    (b_BadDice : PySem.W.subIn K (.ref a_BadDice) (.type "BaseException") = some true)
    (t_BadDice : PySem.W.typeIn K (.ref a_BadDice) = some (.type "type"))
    (hg_BadDice : PySem.W.findIn K (.ref a_BadDice) "__getattribute__" = some (some (.builtin "BaseException.__getattribute__")))
    (hk_BadDice : PySem.W.findIn K (.ref a_BadDice) "__getattr__" = some none)
    (hd_BadDice : PySem.W.hasDictIn K a_BadDice = true)
    (ha_BadDice : PySem.W.findIn K (.ref a_BadDice) "__class__" = some (some (.builtin "object.__class__")))
    (hm_BadDice : PySem.W.mroIn K a_BadDice (.type "object") = some true)
    (g_BadNumber : PySem.W.nsIn K mainGlobals "BadNumber" = some (some (.ref a_BadNumber)))
    (x_BadNumber : PySem.W.excIn K a_BadNumber [.type "ValueError", .type "Exception", .type "BaseException", .type "object"] "ValueError.__new__" = true)
    (k_BadNumber : PySem.W.keepIn K (.ref a_BadNumber) = true)
    (b_BadNumber : PySem.W.subIn K (.ref a_BadNumber) (.type "BaseException") = some true)
    (t_BadNumber : PySem.W.typeIn K (.ref a_BadNumber) = some (.type "type"))
    (hg_BadNumber : PySem.W.findIn K (.ref a_BadNumber) "__getattribute__" = some (some (.builtin "BaseException.__getattribute__")))
    (hk_BadNumber : PySem.W.findIn K (.ref a_BadNumber) "__getattr__" = some none)
    (hd_BadNumber : PySem.W.hasDictIn K a_BadNumber = true)
    (ha_BadNumber : PySem.W.findIn K (.ref a_BadNumber) "__class__" = some (some (.builtin "object.__class__")))
    (hm_BadNumber : PySem.W.mroIn K a_BadNumber (.type "object") = some true)
    (g_BadCounts : PySem.W.nsIn K mainGlobals "BadCounts" = some (some (.ref a_BadCounts)))
    (x_BadCounts : PySem.W.excIn K a_BadCounts [.type "ValueError", .type "Exception", .type "BaseException", .type "object"] "ValueError.__new__" = true)
    (k_BadCounts : PySem.W.keepIn K (.ref a_BadCounts) = true)
    (b_BadCounts : PySem.W.subIn K (.ref a_BadCounts) (.type "BaseException") = some true)
    (t_BadCounts : PySem.W.typeIn K (.ref a_BadCounts) = some (.type "type"))
    (hg_BadCounts : PySem.W.findIn K (.ref a_BadCounts) "__getattribute__" = some (some (.builtin "BaseException.__getattribute__")))
    (hk_BadCounts : PySem.W.findIn K (.ref a_BadCounts) "__getattr__" = some none)
    (hd_BadCounts : PySem.W.hasDictIn K a_BadCounts = true)
    (ha_BadCounts : PySem.W.findIn K (.ref a_BadCounts) "__class__" = some (some (.builtin "object.__class__")))
    (hm_BadCounts : PySem.W.mroIn K a_BadCounts (.type "object") = some true)
    (s_BadDie_DiceError : PySem.W.kitOne K (.ref a_BadDie) (.ref a_DiceError) = some true)
    (e_BadDie_DiceError : PySem.W.subIn K (.ref a_BadDie) (.ref a_DiceError) = some true)
    (s_BadDie_BadDie : PySem.W.kitOne K (.ref a_BadDie) (.ref a_BadDie) = some true)
    (e_BadDie_BadDie : PySem.W.subIn K (.ref a_BadDie) (.ref a_BadDie) = some true)
    (s_BadDie_BadDice : PySem.W.kitOne K (.ref a_BadDie) (.ref a_BadDice) = some false)
    (e_BadDie_BadDice : PySem.W.subIn K (.ref a_BadDie) (.ref a_BadDice) = some false)
    (s_BadDie_BadNumber : PySem.W.kitOne K (.ref a_BadDie) (.ref a_BadNumber) = some false)
    (e_BadDie_BadNumber : PySem.W.subIn K (.ref a_BadDie) (.ref a_BadNumber) = some false)
    (s_BadDie_BadCounts : PySem.W.kitOne K (.ref a_BadDie) (.ref a_BadCounts) = some false)
    (e_BadDie_BadCounts : PySem.W.subIn K (.ref a_BadDie) (.ref a_BadCounts) = some false)
    (s_BadDice_DiceError : PySem.W.kitOne K (.ref a_BadDice) (.ref a_DiceError) = some true)
    (e_BadDice_DiceError : PySem.W.subIn K (.ref a_BadDice) (.ref a_DiceError) = some true)
    (s_BadDice_BadDie : PySem.W.kitOne K (.ref a_BadDice) (.ref a_BadDie) = some false)
    (e_BadDice_BadDie : PySem.W.subIn K (.ref a_BadDice) (.ref a_BadDie) = some false)
    (s_BadDice_BadDice : PySem.W.kitOne K (.ref a_BadDice) (.ref a_BadDice) = some true)
    (e_BadDice_BadDice : PySem.W.subIn K (.ref a_BadDice) (.ref a_BadDice) = some true)
    (s_BadDice_BadNumber : PySem.W.kitOne K (.ref a_BadDice) (.ref a_BadNumber) = some false)
    (e_BadDice_BadNumber : PySem.W.subIn K (.ref a_BadDice) (.ref a_BadNumber) = some false)
    (s_BadDice_BadCounts : PySem.W.kitOne K (.ref a_BadDice) (.ref a_BadCounts) = some false)
    (e_BadDice_BadCounts : PySem.W.subIn K (.ref a_BadDice) (.ref a_BadCounts) = some false)
    (s_BadNumber_DiceError : PySem.W.kitOne K (.ref a_BadNumber) (.ref a_DiceError) = some true)
    (e_BadNumber_DiceError : PySem.W.subIn K (.ref a_BadNumber) (.ref a_DiceError) = some true)
    (s_BadNumber_BadDie : PySem.W.kitOne K (.ref a_BadNumber) (.ref a_BadDie) = some false)
    (e_BadNumber_BadDie : PySem.W.subIn K (.ref a_BadNumber) (.ref a_BadDie) = some false)
    (s_BadNumber_BadDice : PySem.W.kitOne K (.ref a_BadNumber) (.ref a_BadDice) = some false)
    (e_BadNumber_BadDice : PySem.W.subIn K (.ref a_BadNumber) (.ref a_BadDice) = some false)
    (s_BadNumber_BadNumber : PySem.W.kitOne K (.ref a_BadNumber) (.ref a_BadNumber) = some true)
    (e_BadNumber_BadNumber : PySem.W.subIn K (.ref a_BadNumber) (.ref a_BadNumber) = some true)
    (s_BadNumber_BadCounts : PySem.W.kitOne K (.ref a_BadNumber) (.ref a_BadCounts) = some false)
    (e_BadNumber_BadCounts : PySem.W.subIn K (.ref a_BadNumber) (.ref a_BadCounts) = some false)
    (s_BadCounts_DiceError : PySem.W.kitOne K (.ref a_BadCounts) (.ref a_DiceError) = some true)
    (e_BadCounts_DiceError : PySem.W.subIn K (.ref a_BadCounts) (.ref a_DiceError) = some true)
    (s_BadCounts_BadDie : PySem.W.kitOne K (.ref a_BadCounts) (.ref a_BadDie) = some false)
    (e_BadCounts_BadDie : PySem.W.subIn K (.ref a_BadCounts) (.ref a_BadDie) = some false)
    (s_BadCounts_BadDice : PySem.W.kitOne K (.ref a_BadCounts) (.ref a_BadDice) = some false)
    (e_BadCounts_BadDice : PySem.W.subIn K (.ref a_BadCounts) (.ref a_BadDice) = some false)
    (s_BadCounts_BadNumber : PySem.W.kitOne K (.ref a_BadCounts) (.ref a_BadNumber) = some false)
    (e_BadCounts_BadNumber : PySem.W.subIn K (.ref a_BadCounts) (.ref a_BadNumber) = some false)
    (s_BadCounts_BadCounts : PySem.W.kitOne K (.ref a_BadCounts) (.ref a_BadCounts) = some true)
    (e_BadCounts_BadCounts : PySem.W.subIn K (.ref a_BadCounts) (.ref a_BadCounts) = some true)
    (z_DiceError : PySem.W.kitOne K (.type "NoneType") (.ref a_DiceError) = some false)
    (v_DiceError : PySem.W.kitOne K (.ref a_DiceError) (.type "ValueError") = some true)
    (z_BadDie : PySem.W.kitOne K (.type "NoneType") (.ref a_BadDie) = some false)
    (v_BadDie : PySem.W.kitOne K (.ref a_BadDie) (.type "ValueError") = some true)
    (z_BadDice : PySem.W.kitOne K (.type "NoneType") (.ref a_BadDice) = some false)
    (v_BadDice : PySem.W.kitOne K (.ref a_BadDice) (.type "ValueError") = some true)
    (z_BadNumber : PySem.W.kitOne K (.type "NoneType") (.ref a_BadNumber) = some false)
    (v_BadNumber : PySem.W.kitOne K (.ref a_BadNumber) (.type "ValueError") = some true)
    (z_BadCounts : PySem.W.kitOne K (.type "NoneType") (.ref a_BadCounts) = some false)
    (v_BadCounts : PySem.W.kitOne K (.ref a_BadCounts) (.type "ValueError") = some true)
    (g_is_number : PySem.W.nsIn K mainGlobals "is_number" = some (some (.ref a_is_number)))
    (l_is_number : K.lookup a_is_number = some ⟨i_is_number, o_is_number, .func (PySem.W.fnOf "is_number" "is_number" (defArgs st_is_number) (defBody st_is_number) (defScope st_is_number) .none j_is_number u_is_number v_is_number w_is_number r_is_number y_is_number), q_is_number⟩)
    (p_is_number : PySem.W.codeIn K r_is_number "is_number" = true)
    (k_is_number : PySem.W.keepIn K (.ref a_is_number) = true)
    (g_is_face : PySem.W.nsIn K mainGlobals "is_face" = some (some (.ref a_is_face)))
    (l_is_face : K.lookup a_is_face = some ⟨i_is_face, o_is_face, .func (PySem.W.fnOf "is_face" "is_face" (defArgs st_is_face) (defBody st_is_face) (defScope st_is_face) .none j_is_face u_is_face v_is_face w_is_face r_is_face y_is_face), q_is_face⟩)
    (p_is_face : PySem.W.codeIn K r_is_face "is_face" = true)
    (k_is_face : PySem.W.keepIn K (.ref a_is_face) = true)
    (g_is_die : PySem.W.nsIn K mainGlobals "is_die" = some (some (.ref a_is_die)))
    (l_is_die : K.lookup a_is_die = some ⟨i_is_die, o_is_die, .func (PySem.W.fnOf "is_die" "is_die" (defArgs st_is_die) (defBody st_is_die) (defScope st_is_die) .none j_is_die u_is_die v_is_die w_is_die r_is_die y_is_die), q_is_die⟩)
    (p_is_die : PySem.W.codeIn K r_is_die "is_die" = true)
    (k_is_die : PySem.W.keepIn K (.ref a_is_die) = true)
    (g_need_die : PySem.W.nsIn K mainGlobals "need_die" = some (some (.ref a_need_die)))
    (l_need_die : K.lookup a_need_die = some ⟨i_need_die, o_need_die, .func (PySem.W.fnOf "need_die" "need_die" (defArgs st_need_die) (defBody st_need_die) (defScope st_need_die) .none j_need_die u_need_die v_need_die w_need_die r_need_die y_need_die), q_need_die⟩)
    (p_need_die : PySem.W.codeIn K r_need_die "need_die" = true)
    (k_need_die : PySem.W.keepIn K (.ref a_need_die) = true)
    (g_need_dice : PySem.W.nsIn K mainGlobals "need_dice" = some (some (.ref a_need_dice)))
    (l_need_dice : K.lookup a_need_dice = some ⟨i_need_dice, o_need_dice, .func (PySem.W.fnOf "need_dice" "need_dice" (defArgs st_need_dice) (defBody st_need_dice) (defScope st_need_dice) .none j_need_dice u_need_dice v_need_dice w_need_dice r_need_dice y_need_dice), q_need_dice⟩)
    (p_need_dice : PySem.W.codeIn K r_need_dice "need_dice" = true)
    (k_need_dice : PySem.W.keepIn K (.ref a_need_dice) = true)
    (g_counts : PySem.W.nsIn K mainGlobals "counts" = some (some (.ref a_counts)))
    (l_counts : K.lookup a_counts = some ⟨i_counts, o_counts, .func (PySem.W.fnOf "counts" "counts" (defArgs st_counts) (defBody st_counts) (defScope st_counts) .none j_counts u_counts v_counts w_counts r_counts y_counts), q_counts⟩)
    (p_counts : PySem.W.codeIn K r_counts "counts" = true)
    (k_counts : PySem.W.keepIn K (.ref a_counts) = true)
    (g_ways_with : PySem.W.nsIn K mainGlobals "ways_with" = some (some (.ref a_ways_with)))
    (l_ways_with : K.lookup a_ways_with = some ⟨i_ways_with, o_ways_with, .func (PySem.W.fnOf "ways_with" "ways_with" (defArgs st_ways_with) (defBody st_ways_with) (defScope st_ways_with) .none j_ways_with u_ways_with v_ways_with w_ways_with r_ways_with y_ways_with), q_ways_with⟩)
    (p_ways_with : PySem.W.codeIn K r_ways_with "ways_with" = true)
    (k_ways_with : PySem.W.keepIn K (.ref a_ways_with) = true)
    (g_pairs_of : PySem.W.nsIn K mainGlobals "pairs_of" = some (some (.ref a_pairs_of)))
    (l_pairs_of : K.lookup a_pairs_of = some ⟨i_pairs_of, o_pairs_of, .func (PySem.W.fnOf "pairs_of" "pairs_of" (defArgs st_pairs_of) (defBody st_pairs_of) (defScope st_pairs_of) .none j_pairs_of u_pairs_of v_pairs_of w_pairs_of r_pairs_of y_pairs_of), q_pairs_of⟩)
    (p_pairs_of : PySem.W.codeIn K r_pairs_of "pairs_of" = true)
    (k_pairs_of : PySem.W.keepIn K (.ref a_pairs_of) = true)
    (g_alike : PySem.W.nsIn K mainGlobals "alike" = some (some (.ref a_alike)))
    (l_alike : K.lookup a_alike = some ⟨i_alike, o_alike, .func (PySem.W.fnOf "alike" "alike" (defArgs st_alike) (defBody st_alike) (defScope st_alike) .none j_alike u_alike v_alike w_alike r_alike y_alike), q_alike⟩)
    (p_alike : PySem.W.codeIn K r_alike "alike" = true)
    (k_alike : PySem.W.keepIn K (.ref a_alike) = true)
    (g_need_many_faces : PySem.W.nsIn K mainGlobals "need_many_faces" = some (some (.ref a_need_many_faces)))
    (l_need_many_faces : K.lookup a_need_many_faces = some ⟨i_need_many_faces, o_need_many_faces, .func (PySem.W.fnOf "need_many_faces" "need_many_faces" (defArgs st_need_many_faces) (defBody st_need_many_faces) (defScope st_need_many_faces) .none j_need_many_faces u_need_many_faces v_need_many_faces w_need_many_faces r_need_many_faces y_need_many_faces), q_need_many_faces⟩)
    (p_need_many_faces : PySem.W.codeIn K r_need_many_faces "need_many_faces" = true)
    (k_need_many_faces : PySem.W.keepIn K (.ref a_need_many_faces) = true)
    (g_need_pair_die : PySem.W.nsIn K mainGlobals "need_pair_die" = some (some (.ref a_need_pair_die)))
    (l_need_pair_die : K.lookup a_need_pair_die = some ⟨i_need_pair_die, o_need_pair_die, .func (PySem.W.fnOf "need_pair_die" "need_pair_die" (defArgs st_need_pair_die) (defBody st_need_pair_die) (defScope st_need_pair_die) .none j_need_pair_die u_need_pair_die v_need_pair_die w_need_pair_die r_need_pair_die y_need_pair_die), q_need_pair_die⟩)
    (p_need_pair_die : PySem.W.codeIn K r_need_pair_die "need_pair_die" = true)
    (k_need_pair_die : PySem.W.keepIn K (.ref a_need_pair_die) = true)
    (g_need_counts : PySem.W.nsIn K mainGlobals "need_counts" = some (some (.ref a_need_counts)))
    (l_need_counts : K.lookup a_need_counts = some ⟨i_need_counts, o_need_counts, .func (PySem.W.fnOf "need_counts" "need_counts" (defArgs st_need_counts) (defBody st_need_counts) (defScope st_need_counts) .none j_need_counts u_need_counts v_need_counts w_need_counts r_need_counts y_need_counts), q_need_counts⟩)
    (p_need_counts : PySem.W.codeIn K r_need_counts "need_counts" = true)
    (k_need_counts : PySem.W.keepIn K (.ref a_need_counts) = true)
    (g_is_row : PySem.W.nsIn K mainGlobals "is_row" = some (some (.ref a_is_row)))
    (l_is_row : K.lookup a_is_row = some ⟨i_is_row, o_is_row, .func (PySem.W.fnOf "is_row" "is_row" (defArgs st_is_row) (defBody st_is_row) (defScope st_is_row) .none j_is_row u_is_row v_is_row w_is_row r_is_row y_is_row), q_is_row⟩)
    (p_is_row : PySem.W.codeIn K r_is_row "is_row" = true)
    (k_is_row : PySem.W.keepIn K (.ref a_is_row) = true)
    (g_with_a_face_more : PySem.W.nsIn K mainGlobals "with_a_face_more" = some (some (.ref a_with_a_face_more)))
    (l_with_a_face_more : K.lookup a_with_a_face_more = some ⟨i_with_a_face_more, o_with_a_face_more, .func (PySem.W.fnOf "with_a_face_more" "with_a_face_more" (defArgs st_with_a_face_more) (defBody st_with_a_face_more) (defScope st_with_a_face_more) .none j_with_a_face_more u_with_a_face_more v_with_a_face_more w_with_a_face_more r_with_a_face_more y_with_a_face_more), q_with_a_face_more⟩)
    (p_with_a_face_more : PySem.W.codeIn K r_with_a_face_more "with_a_face_more" = true)
    (k_with_a_face_more : PySem.W.keepIn K (.ref a_with_a_face_more) = true)
    (g_without : PySem.W.nsIn K mainGlobals "without" = some (some (.ref a_without)))
    (l_without : K.lookup a_without = some ⟨i_without, o_without, .func (PySem.W.fnOf "without" "without" (defArgs st_without) (defBody st_without) (defScope st_without) .none j_without u_without v_without w_without r_without y_without), q_without⟩)
    (p_without : PySem.W.codeIn K r_without "without" = true)
    (k_without : PySem.W.keepIn K (.ref a_without) = true)
    (g_law_draw : PySem.W.nsIn K mainGlobals "_law_draw" = some (some (.ref a_law_draw)))
    (l_law_draw : K.lookup a_law_draw = some ⟨i_law_draw, o_law_draw, .func (PySem.W.fnOf "_law_draw" "_law_draw" (defArgs st_law_draw) (defBody st_law_draw) (defScope st_law_draw) .none j_law_draw u_law_draw v_law_draw w_law_draw r_law_draw y_law_draw), q_law_draw⟩)
    (p_law_draw : PySem.W.codeIn K r_law_draw "_law_draw" = true)
    (k_law_draw : PySem.W.keepIn K (.ref a_law_draw) = true)
    (g_law_die : PySem.W.nsIn K mainGlobals "_law_die" = some (some (.ref a_law_die)))
    (l_law_die : K.lookup a_law_die = some ⟨i_law_die, o_law_die, .func (PySem.W.fnOf "_law_die" "_law_die" (defArgs st_law_die) (defBody st_law_die) (defScope st_law_die) .none j_law_die u_law_die v_law_die w_law_die r_law_die y_law_die), q_law_die⟩)
    (p_law_die : PySem.W.codeIn K r_law_die "_law_die" = true)
    (k_law_die : PySem.W.keepIn K (.ref a_law_die) = true)
    (g_law_throws : PySem.W.nsIn K mainGlobals "_law_throws" = some (some (.ref a_law_throws)))
    (l_law_throws : K.lookup a_law_throws = some ⟨i_law_throws, o_law_throws, .func (PySem.W.fnOf "_law_throws" "_law_throws" (defArgs st_law_throws) (defBody st_law_throws) (defScope st_law_throws) .none j_law_throws u_law_throws v_law_throws w_law_throws r_law_throws y_law_throws), q_law_throws⟩)
    (p_law_throws : PySem.W.codeIn K r_law_throws "_law_throws" = true)
    (k_law_throws : PySem.W.keepIn K (.ref a_law_throws) = true)
    (g_law_counted : PySem.W.nsIn K mainGlobals "_law_counted" = some (some (.ref a_law_counted)))
    (l_law_counted : K.lookup a_law_counted = some ⟨i_law_counted, o_law_counted, .func (PySem.W.fnOf "_law_counted" "_law_counted" (defArgs st_law_counted) (defBody st_law_counted) (defScope st_law_counted) .none j_law_counted u_law_counted v_law_counted w_law_counted r_law_counted y_law_counted), q_law_counted⟩)
    (p_law_counted : PySem.W.codeIn K r_law_counted "_law_counted" = true)
    (k_law_counted : PySem.W.keepIn K (.ref a_law_counted) = true)
    (g_law_good : PySem.W.nsIn K mainGlobals "_law_good" = some (some (.ref a_law_good)))
    (l_law_good : K.lookup a_law_good = some ⟨i_law_good, o_law_good, .func (PySem.W.fnOf "_law_good" "_law_good" (defArgs st_law_good) (defBody st_law_good) (defScope st_law_good) .none j_law_good u_law_good v_law_good w_law_good r_law_good y_law_good), q_law_good⟩)
    (p_law_good : PySem.W.codeIn K r_law_good "_law_good" = true)
    (k_law_good : PySem.W.keepIn K (.ref a_law_good) = true)
    (g_law_changed : PySem.W.nsIn K mainGlobals "_law_changed" = some (some (.ref a_law_changed)))
    (l_law_changed : K.lookup a_law_changed = some ⟨i_law_changed, o_law_changed, .func (PySem.W.fnOf "_law_changed" "_law_changed" (defArgs st_law_changed) (defBody st_law_changed) (defScope st_law_changed) .none j_law_changed u_law_changed v_law_changed w_law_changed r_law_changed y_law_changed), q_law_changed⟩)
    (p_law_changed : PySem.W.codeIn K r_law_changed "_law_changed" = true)
    (k_law_changed : PySem.W.keepIn K (.ref a_law_changed) = true)
    (g_law : PySem.W.nsIn K mainGlobals "law" = some (some (.ref a_law)))
    (l_law : K.lookup a_law = some ⟨i_law, o_law, .func (PySem.W.fnOf "law" "law" (defArgs st_law) (defBody st_law) (defScope st_law) .none j_law u_law v_law w_law r_law y_law), q_law⟩)
    (p_law : PySem.W.codeIn K r_law "law" = true)
    (k_law : PySem.W.keepIn K (.ref a_law) = true) : Lay K mg :=
  { n_isinstance := PySem.W.mg_none_of X G n_isinstance,
    n_int := PySem.W.mg_none_of X G n_int,
    n_bool := PySem.W.mg_none_of X G n_bool,
    n_list := PySem.W.mg_none_of X G n_list,
    n_len := PySem.W.mg_none_of X G n_len,
    n_all := PySem.W.mg_none_of X G n_all,
    n_sorted := PySem.W.mg_none_of X G n_sorted,
    n_dict := PySem.W.mg_none_of X G n_dict,
    n_range := PySem.W.mg_none_of X G n_range,
    n_min := PySem.W.mg_none_of X G n_min,
    n_zip := PySem.W.mg_none_of X G n_zip,
    n_sum := PySem.W.mg_none_of X G n_sum,
    n_tuple := PySem.W.mg_none_of X G n_tuple,
    n_set := PySem.W.mg_none_of X G n_set,
    n_max := PySem.W.mg_none_of X G n_max,
    n_ValueError := PySem.W.mg_none_of X G n_ValueError,
    t_MOST_FACES := _, c_MOST_FACES := PySem.W.mg_of X G c_MOST_FACES,
    t_GREATEST_FACE := _, c_GREATEST_FACE := PySem.W.mg_of X G c_GREATEST_FACE,
    t_MOST_DICE := _, c_MOST_DICE := PySem.W.mg_of X G c_MOST_DICE,
    t_MOST_PAIR_FACES := _, c_MOST_PAIR_FACES := PySem.W.mg_of X G c_MOST_PAIR_FACES,
    t_GREATEST_SUM := _, c_GREATEST_SUM := PySem.W.mg_of X G c_GREATEST_SUM,
    a_DiceError := _, g_DiceError := PySem.W.mg_of X G g_DiceError, x_DiceError := { x := x_DiceError, k := k_DiceError, b := b_DiceError, t := t_DiceError, c := { hg := hg_DiceError, hk := hk_DiceError, hs := b_DiceError, hd := hd_DiceError, ha := ha_DiceError, hn := hn, ht := ht, hm := hm_DiceError } },
    a_BadDie := _, g_BadDie := PySem.W.mg_of X G g_BadDie, x_BadDie := { x := x_BadDie, k := k_BadDie, b := b_BadDie, t := t_BadDie, c := { hg := hg_BadDie, hk := hk_BadDie, hs := b_BadDie, hd := hd_BadDie, ha := ha_BadDie, hn := hn, ht := ht, hm := hm_BadDie } },
    a_BadDice := _, g_BadDice := PySem.W.mg_of X G g_BadDice, x_BadDice := { x := x_BadDice, k := k_BadDice, b := b_BadDice, t := t_BadDice, c := { hg := hg_BadDice, hk := hk_BadDice, hs := b_BadDice, hd := hd_BadDice, ha := ha_BadDice, hn := hn, ht := ht, hm := hm_BadDice } },
    a_BadNumber := _, g_BadNumber := PySem.W.mg_of X G g_BadNumber, x_BadNumber := { x := x_BadNumber, k := k_BadNumber, b := b_BadNumber, t := t_BadNumber, c := { hg := hg_BadNumber, hk := hk_BadNumber, hs := b_BadNumber, hd := hd_BadNumber, ha := ha_BadNumber, hn := hn, ht := ht, hm := hm_BadNumber } },
    a_BadCounts := _, g_BadCounts := PySem.W.mg_of X G g_BadCounts, x_BadCounts := { x := x_BadCounts, k := k_BadCounts, b := b_BadCounts, t := t_BadCounts, c := { hg := hg_BadCounts, hk := hk_BadCounts, hs := b_BadCounts, hd := hd_BadCounts, ha := ha_BadCounts, hn := hn, ht := ht, hm := hm_BadCounts } },
    s_BadDie_DiceError := s_BadDie_DiceError, e_BadDie_DiceError := e_BadDie_DiceError,
    s_BadDie_BadDie := s_BadDie_BadDie, e_BadDie_BadDie := e_BadDie_BadDie,
    s_BadDie_BadDice := s_BadDie_BadDice, e_BadDie_BadDice := e_BadDie_BadDice,
    s_BadDie_BadNumber := s_BadDie_BadNumber, e_BadDie_BadNumber := e_BadDie_BadNumber,
    s_BadDie_BadCounts := s_BadDie_BadCounts, e_BadDie_BadCounts := e_BadDie_BadCounts,
    s_BadDice_DiceError := s_BadDice_DiceError, e_BadDice_DiceError := e_BadDice_DiceError,
    s_BadDice_BadDie := s_BadDice_BadDie, e_BadDice_BadDie := e_BadDice_BadDie,
    s_BadDice_BadDice := s_BadDice_BadDice, e_BadDice_BadDice := e_BadDice_BadDice,
    s_BadDice_BadNumber := s_BadDice_BadNumber, e_BadDice_BadNumber := e_BadDice_BadNumber,
    s_BadDice_BadCounts := s_BadDice_BadCounts, e_BadDice_BadCounts := e_BadDice_BadCounts,
    s_BadNumber_DiceError := s_BadNumber_DiceError, e_BadNumber_DiceError := e_BadNumber_DiceError,
    s_BadNumber_BadDie := s_BadNumber_BadDie, e_BadNumber_BadDie := e_BadNumber_BadDie,
    s_BadNumber_BadDice := s_BadNumber_BadDice, e_BadNumber_BadDice := e_BadNumber_BadDice,
    s_BadNumber_BadNumber := s_BadNumber_BadNumber, e_BadNumber_BadNumber := e_BadNumber_BadNumber,
    s_BadNumber_BadCounts := s_BadNumber_BadCounts, e_BadNumber_BadCounts := e_BadNumber_BadCounts,
    s_BadCounts_DiceError := s_BadCounts_DiceError, e_BadCounts_DiceError := e_BadCounts_DiceError,
    s_BadCounts_BadDie := s_BadCounts_BadDie, e_BadCounts_BadDie := e_BadCounts_BadDie,
    s_BadCounts_BadDice := s_BadCounts_BadDice, e_BadCounts_BadDice := e_BadCounts_BadDice,
    s_BadCounts_BadNumber := s_BadCounts_BadNumber, e_BadCounts_BadNumber := e_BadCounts_BadNumber,
    s_BadCounts_BadCounts := s_BadCounts_BadCounts, e_BadCounts_BadCounts := e_BadCounts_BadCounts,
    z_DiceError := z_DiceError,
    v_DiceError := v_DiceError,
    z_BadDie := z_BadDie,
    v_BadDie := v_BadDie,
    z_BadDice := z_BadDice,
    v_BadDice := v_BadDice,
    z_BadNumber := z_BadNumber,
    v_BadNumber := v_BadNumber,
    z_BadCounts := z_BadCounts,
    v_BadCounts := v_BadCounts,
    a_is_number := _, d_is_number := _, g_is_number := PySem.W.mg_of X G g_is_number, f_is_number := fun_mk (st := st_is_number) l_is_number p_is_number k_is_number, b_is_number := (fun_mk (st := st_is_number) l_is_number p_is_number k_is_number).binds (ps := ["thing"]) fun _ _ _ _ _ _ us hl => match us, hl with | [_], _ => rfl,
    a_is_face := _, d_is_face := _, g_is_face := PySem.W.mg_of X G g_is_face, f_is_face := fun_mk (st := st_is_face) l_is_face p_is_face k_is_face, b_is_face := (fun_mk (st := st_is_face) l_is_face p_is_face k_is_face).binds (ps := ["thing"]) fun _ _ _ _ _ _ us hl => match us, hl with | [_], _ => rfl,
    a_is_die := _, d_is_die := _, g_is_die := PySem.W.mg_of X G g_is_die, f_is_die := fun_mk (st := st_is_die) l_is_die p_is_die k_is_die, b_is_die := (fun_mk (st := st_is_die) l_is_die p_is_die k_is_die).binds (ps := ["thing"]) fun _ _ _ _ _ _ us hl => match us, hl with | [_], _ => rfl,
    a_need_die := _, d_need_die := _, g_need_die := PySem.W.mg_of X G g_need_die, f_need_die := fun_mk (st := st_need_die) l_need_die p_need_die k_need_die, b_need_die := (fun_mk (st := st_need_die) l_need_die p_need_die k_need_die).binds (ps := ["thing"]) fun _ _ _ _ _ _ us hl => match us, hl with | [_], _ => rfl,
    a_need_dice := _, d_need_dice := _, g_need_dice := PySem.W.mg_of X G g_need_dice, f_need_dice := fun_mk (st := st_need_dice) l_need_dice p_need_dice k_need_dice, b_need_dice := (fun_mk (st := st_need_dice) l_need_dice p_need_dice k_need_dice).binds (ps := ["thing", "most"]) fun _ _ _ _ _ _ us hl => match us, hl with | [_, _], _ => rfl,
    a_counts := _, d_counts := _, g_counts := PySem.W.mg_of X G g_counts, f_counts := fun_mk (st := st_counts) l_counts p_counts k_counts, b_counts := (fun_mk (st := st_counts) l_counts p_counts k_counts).binds (ps := ["dice"]) fun _ _ _ _ _ _ us hl => match us, hl with | [_], _ => rfl,
    a_ways_with := _, d_ways_with := _, g_ways_with := PySem.W.mg_of X G g_ways_with, f_ways_with := fun_mk (st := st_ways_with) l_ways_with p_ways_with k_ways_with, b_ways_with := (fun_mk (st := st_ways_with) l_ways_with p_ways_with k_ways_with).binds (ps := ["ways", "die"]) fun _ _ _ _ _ _ us hl => match us, hl with | [_, _], _ => rfl,
    a_pairs_of := _, d_pairs_of := _, g_pairs_of := PySem.W.mg_of X G g_pairs_of, f_pairs_of := fun_mk (st := st_pairs_of) l_pairs_of p_pairs_of k_pairs_of, b_pairs_of := (fun_mk (st := st_pairs_of) l_pairs_of p_pairs_of k_pairs_of).binds (ps := ["rows", "many", "more", "least"]) fun _ _ _ _ _ _ us hl => match us, hl with | [_, _, _, _], _ => rfl,
    a_alike := _, d_alike := _, g_alike := PySem.W.mg_of X G g_alike, f_alike := fun_mk (st := st_alike) l_alike p_alike k_alike, b_alike := (fun_mk (st := st_alike) l_alike p_alike k_alike).binds (ps := ["one", "other"]) fun _ _ _ _ _ _ us hl => match us, hl with | [_, _], _ => rfl,
    a_need_many_faces := _, d_need_many_faces := _, g_need_many_faces := PySem.W.mg_of X G g_need_many_faces, f_need_many_faces := fun_mk (st := st_need_many_faces) l_need_many_faces p_need_many_faces k_need_many_faces, b_need_many_faces := (fun_mk (st := st_need_many_faces) l_need_many_faces p_need_many_faces k_need_many_faces).binds (ps := ["thing"]) fun _ _ _ _ _ _ us hl => match us, hl with | [_], _ => rfl,
    a_need_pair_die := _, d_need_pair_die := _, g_need_pair_die := PySem.W.mg_of X G g_need_pair_die, f_need_pair_die := fun_mk (st := st_need_pair_die) l_need_pair_die p_need_pair_die k_need_pair_die, b_need_pair_die := (fun_mk (st := st_need_pair_die) l_need_pair_die p_need_pair_die k_need_pair_die).binds (ps := ["thing"]) fun _ _ _ _ _ _ us hl => match us, hl with | [_], _ => rfl,
    a_need_counts := _, d_need_counts := _, g_need_counts := PySem.W.mg_of X G g_need_counts, f_need_counts := fun_mk (st := st_need_counts) l_need_counts p_need_counts k_need_counts, b_need_counts := (fun_mk (st := st_need_counts) l_need_counts p_need_counts k_need_counts).binds (ps := ["thing", "throws"]) fun _ _ _ _ _ _ us hl => match us, hl with | [_, _], _ => rfl,
    a_is_row := _, d_is_row := _, g_is_row := PySem.W.mg_of X G g_is_row, f_is_row := fun_mk (st := st_is_row) l_is_row p_is_row k_is_row, b_is_row := (fun_mk (st := st_is_row) l_is_row p_is_row k_is_row).binds (ps := ["thing"]) fun _ _ _ _ _ _ us hl => match us, hl with | [_], _ => rfl,
    a_with_a_face_more := _, d_with_a_face_more := _, g_with_a_face_more := PySem.W.mg_of X G g_with_a_face_more, f_with_a_face_more := fun_mk (st := st_with_a_face_more) l_with_a_face_more p_with_a_face_more k_with_a_face_more, b_with_a_face_more := (fun_mk (st := st_with_a_face_more) l_with_a_face_more p_with_a_face_more k_with_a_face_more).binds (ps := ["begun", "many", "more"]) fun _ _ _ _ _ _ us hl => match us, hl with | [_, _, _], _ => rfl,
    a_without := _, d_without := _, g_without := PySem.W.mg_of X G g_without, f_without := fun_mk (st := st_without) l_without p_without k_without, b_without := (fun_mk (st := st_without) l_without p_without k_without).binds (ps := ["left", "totals"]) fun _ _ _ _ _ _ us hl => match us, hl with | [_, _], _ => rfl,
    a_law_draw := _, d_law_draw := _, g_law_draw := PySem.W.mg_of X G g_law_draw, f_law_draw := fun_mk (st := st_law_draw) l_law_draw p_law_draw k_law_draw, b_law_draw := (fun_mk (st := st_law_draw) l_law_draw p_law_draw k_law_draw).binds (ps := ["_law_script", "_law_k"]) fun _ _ _ _ _ _ us hl => match us, hl with | [_, _], _ => rfl,
    a_law_die := _, d_law_die := _, g_law_die := PySem.W.mg_of X G g_law_die, f_law_die := fun_mk (st := st_law_die) l_law_die p_law_die k_law_die, b_law_die := (fun_mk (st := st_law_die) l_law_die p_law_die k_law_die).binds (ps := ["_law_script", "_law_k", "_law_most", "_law_top"]) fun _ _ _ _ _ _ us hl => match us, hl with | [_, _, _, _], _ => rfl,
    a_law_throws := _, d_law_throws := _, g_law_throws := PySem.W.mg_of X G g_law_throws, f_law_throws := fun_mk (st := st_law_throws) l_law_throws p_law_throws k_law_throws, b_law_throws := (fun_mk (st := st_law_throws) l_law_throws p_law_throws k_law_throws).binds (ps := ["_law_dice"]) fun _ _ _ _ _ _ us hl => match us, hl with | [_], _ => rfl,
    a_law_counted := _, d_law_counted := _, g_law_counted := PySem.W.mg_of X G g_law_counted, f_law_counted := fun_mk (st := st_law_counted) l_law_counted p_law_counted k_law_counted, b_law_counted := (fun_mk (st := st_law_counted) l_law_counted p_law_counted k_law_counted).binds (ps := ["_law_sums"]) fun _ _ _ _ _ _ us hl => match us, hl with | [_], _ => rfl,
    a_law_good := _, d_law_good := _, g_law_good := PySem.W.mg_of X G g_law_good, f_law_good := fun_mk (st := st_law_good) l_law_good p_law_good k_law_good, b_law_good := (fun_mk (st := st_law_good) l_law_good p_law_good k_law_good).binds (ps := ["_law_found", "_law_one", "_law_other"]) fun _ _ _ _ _ _ us hl => match us, hl with | [_, _, _], _ => rfl,
    a_law_changed := _, d_law_changed := _, g_law_changed := PySem.W.mg_of X G g_law_changed, f_law_changed := fun_mk (st := st_law_changed) l_law_changed p_law_changed k_law_changed, b_law_changed := (fun_mk (st := st_law_changed) l_law_changed p_law_changed k_law_changed).binds (ps := ["_law_pairs", "_law_by", "_law_lift"]) fun _ _ _ _ _ _ us hl => match us, hl with | [_, _, _], _ => rfl,
    a_law := _, d_law := _, g_law := PySem.W.mg_of X G g_law, f_law := fun_mk (st := st_law) l_law p_law k_law, b_law := (fun_mk (st := st_law) l_law p_law k_law).binds (ps := ["_law_script"]) fun _ _ _ _ _ _ us hl => match us, hl with | [_], _ => rfl }
theorem all_mk {l : PySem.W.OpenLaw} {w : World} {K : PySem.W.Frag} {h : Heap} {mg : Str → Option Value} {fa : Addr} (X : K.In h) (G : h.Ns mainGlobals mg) (hfa : mg "law" = some (.ref fa))
    {t_MOST_FACES : Tok}
    {t_GREATEST_FACE : Tok}
    {t_MOST_DICE : Tok}
    {t_MOST_PAIR_FACES : Tok}
    {t_GREATEST_SUM : Tok}
    {a_DiceError : Addr}
    {a_BadDie : Addr}
    {a_BadDice : Addr}
    {a_BadNumber : Addr}
    {a_BadCounts : Addr}
    {o_is_number : Option Addr} {w_is_number : Option Addr} {q_is_number : Array (Option Value)} {i_is_number j_is_number u_is_number v_is_number r_is_number y_is_number : Value} {a_is_number : Addr}
    {o_is_face : Option Addr} {w_is_face : Option Addr} {q_is_face : Array (Option Value)} {i_is_face j_is_face u_is_face v_is_face r_is_face y_is_face : Value} {a_is_face : Addr}
    {o_is_die : Option Addr} {w_is_die : Option Addr} {q_is_die : Array (Option Value)} {i_is_die j_is_die u_is_die v_is_die r_is_die y_is_die : Value} {a_is_die : Addr}
    {o_need_die : Option Addr} {w_need_die : Option Addr} {q_need_die : Array (Option Value)} {i_need_die j_need_die u_need_die v_need_die r_need_die y_need_die : Value} {a_need_die : Addr}
    {o_need_dice : Option Addr} {w_need_dice : Option Addr} {q_need_dice : Array (Option Value)} {i_need_dice j_need_dice u_need_dice v_need_dice r_need_dice y_need_dice : Value} {a_need_dice : Addr}
    {o_counts : Option Addr} {w_counts : Option Addr} {q_counts : Array (Option Value)} {i_counts j_counts u_counts v_counts r_counts y_counts : Value} {a_counts : Addr}
    {o_ways_with : Option Addr} {w_ways_with : Option Addr} {q_ways_with : Array (Option Value)} {i_ways_with j_ways_with u_ways_with v_ways_with r_ways_with y_ways_with : Value} {a_ways_with : Addr}
    {o_pairs_of : Option Addr} {w_pairs_of : Option Addr} {q_pairs_of : Array (Option Value)} {i_pairs_of j_pairs_of u_pairs_of v_pairs_of r_pairs_of y_pairs_of : Value} {a_pairs_of : Addr}
    {o_alike : Option Addr} {w_alike : Option Addr} {q_alike : Array (Option Value)} {i_alike j_alike u_alike v_alike r_alike y_alike : Value} {a_alike : Addr}
    {o_need_many_faces : Option Addr} {w_need_many_faces : Option Addr} {q_need_many_faces : Array (Option Value)} {i_need_many_faces j_need_many_faces u_need_many_faces v_need_many_faces r_need_many_faces y_need_many_faces : Value} {a_need_many_faces : Addr}
    {o_need_pair_die : Option Addr} {w_need_pair_die : Option Addr} {q_need_pair_die : Array (Option Value)} {i_need_pair_die j_need_pair_die u_need_pair_die v_need_pair_die r_need_pair_die y_need_pair_die : Value} {a_need_pair_die : Addr}
    {o_need_counts : Option Addr} {w_need_counts : Option Addr} {q_need_counts : Array (Option Value)} {i_need_counts j_need_counts u_need_counts v_need_counts r_need_counts y_need_counts : Value} {a_need_counts : Addr}
    {o_is_row : Option Addr} {w_is_row : Option Addr} {q_is_row : Array (Option Value)} {i_is_row j_is_row u_is_row v_is_row r_is_row y_is_row : Value} {a_is_row : Addr}
    {o_with_a_face_more : Option Addr} {w_with_a_face_more : Option Addr} {q_with_a_face_more : Array (Option Value)} {i_with_a_face_more j_with_a_face_more u_with_a_face_more v_with_a_face_more r_with_a_face_more y_with_a_face_more : Value} {a_with_a_face_more : Addr}
    {o_without : Option Addr} {w_without : Option Addr} {q_without : Array (Option Value)} {i_without j_without u_without v_without r_without y_without : Value} {a_without : Addr}
    {o_law_draw : Option Addr} {w_law_draw : Option Addr} {q_law_draw : Array (Option Value)} {i_law_draw j_law_draw u_law_draw v_law_draw r_law_draw y_law_draw : Value} {a_law_draw : Addr}
    {o_law_die : Option Addr} {w_law_die : Option Addr} {q_law_die : Array (Option Value)} {i_law_die j_law_die u_law_die v_law_die r_law_die y_law_die : Value} {a_law_die : Addr}
    {o_law_throws : Option Addr} {w_law_throws : Option Addr} {q_law_throws : Array (Option Value)} {i_law_throws j_law_throws u_law_throws v_law_throws r_law_throws y_law_throws : Value} {a_law_throws : Addr}
    {o_law_counted : Option Addr} {w_law_counted : Option Addr} {q_law_counted : Array (Option Value)} {i_law_counted j_law_counted u_law_counted v_law_counted r_law_counted y_law_counted : Value} {a_law_counted : Addr}
    {o_law_good : Option Addr} {w_law_good : Option Addr} {q_law_good : Array (Option Value)} {i_law_good j_law_good u_law_good v_law_good r_law_good y_law_good : Value} {a_law_good : Addr}
    {o_law_changed : Option Addr} {w_law_changed : Option Addr} {q_law_changed : Array (Option Value)} {i_law_changed j_law_changed u_law_changed v_law_changed r_law_changed y_law_changed : Value} {a_law_changed : Addr}
    {o_law : Option Addr} {w_law : Option Addr} {q_law : Array (Option Value)} {i_law j_law u_law v_law r_law y_law : Value} {a_law : Addr}
    (n_isinstance : PySem.W.nsIn K mainGlobals "isinstance" = some none)
    (n_int : PySem.W.nsIn K mainGlobals "int" = some none)
    (n_bool : PySem.W.nsIn K mainGlobals "bool" = some none)
    (n_list : PySem.W.nsIn K mainGlobals "list" = some none)
    (n_len : PySem.W.nsIn K mainGlobals "len" = some none)
    (n_all : PySem.W.nsIn K mainGlobals "all" = some none)
    (n_sorted : PySem.W.nsIn K mainGlobals "sorted" = some none)
    (n_dict : PySem.W.nsIn K mainGlobals "dict" = some none)
    (n_range : PySem.W.nsIn K mainGlobals "range" = some none)
    (n_min : PySem.W.nsIn K mainGlobals "min" = some none)
    (n_zip : PySem.W.nsIn K mainGlobals "zip" = some none)
    (n_sum : PySem.W.nsIn K mainGlobals "sum" = some none)
    (n_tuple : PySem.W.nsIn K mainGlobals "tuple" = some none)
    (n_set : PySem.W.nsIn K mainGlobals "set" = some none)
    (n_max : PySem.W.nsIn K mainGlobals "max" = some none)
    (n_ValueError : PySem.W.nsIn K mainGlobals "ValueError" = some none)
    (c_MOST_FACES : PySem.W.nsIn K mainGlobals "MOST_FACES" = some (some (.int 8 t_MOST_FACES)))
    (c_GREATEST_FACE : PySem.W.nsIn K mainGlobals "GREATEST_FACE" = some (some (.int 99 t_GREATEST_FACE)))
    (c_MOST_DICE : PySem.W.nsIn K mainGlobals "MOST_DICE" = some (some (.int 4 t_MOST_DICE)))
    (c_MOST_PAIR_FACES : PySem.W.nsIn K mainGlobals "MOST_PAIR_FACES" = some (some (.int 6 t_MOST_PAIR_FACES)))
    (c_GREATEST_SUM : PySem.W.nsIn K mainGlobals "GREATEST_SUM" = some (some (.int 198 t_GREATEST_SUM)))
    (hn : PySem.W.specialIn K (.builtin "object.__class__") "__get__" = some (some (.builtin "getset_descriptor.__get__")))
    (ht : PySem.W.takesIn K (.builtin "object.__class__") = some true)
    (g_DiceError : PySem.W.nsIn K mainGlobals "DiceError" = some (some (.ref a_DiceError)))
    (x_DiceError : PySem.W.excIn K a_DiceError [.type "ValueError", .type "Exception", .type "BaseException", .type "object"] "ValueError.__new__" = true)
    (k_DiceError : PySem.W.keepIn K (.ref a_DiceError) = true)
    (b_DiceError : PySem.W.subIn K (.ref a_DiceError) (.type "BaseException") = some true)
    (t_DiceError : PySem.W.typeIn K (.ref a_DiceError) = some (.type "type"))
    (hg_DiceError : PySem.W.findIn K (.ref a_DiceError) "__getattribute__" = some (some (.builtin "BaseException.__getattribute__")))
    (hk_DiceError : PySem.W.findIn K (.ref a_DiceError) "__getattr__" = some none)
    (hd_DiceError : PySem.W.hasDictIn K a_DiceError = true)
    (ha_DiceError : PySem.W.findIn K (.ref a_DiceError) "__class__" = some (some (.builtin "object.__class__")))
    (hm_DiceError : PySem.W.mroIn K a_DiceError (.type "object") = some true)
    (g_BadDie : PySem.W.nsIn K mainGlobals "BadDie" = some (some (.ref a_BadDie)))
    (x_BadDie : PySem.W.excIn K a_BadDie [.type "ValueError", .type "Exception", .type "BaseException", .type "object"] "ValueError.__new__" = true)
    (k_BadDie : PySem.W.keepIn K (.ref a_BadDie) = true)
    (b_BadDie : PySem.W.subIn K (.ref a_BadDie) (.type "BaseException") = some true)
    (t_BadDie : PySem.W.typeIn K (.ref a_BadDie) = some (.type "type"))
    (hg_BadDie : PySem.W.findIn K (.ref a_BadDie) "__getattribute__" = some (some (.builtin "BaseException.__getattribute__")))
    (hk_BadDie : PySem.W.findIn K (.ref a_BadDie) "__getattr__" = some none)
    (hd_BadDie : PySem.W.hasDictIn K a_BadDie = true)
    (ha_BadDie : PySem.W.findIn K (.ref a_BadDie) "__class__" = some (some (.builtin "object.__class__")))
    (hm_BadDie : PySem.W.mroIn K a_BadDie (.type "object") = some true)
    (g_BadDice : PySem.W.nsIn K mainGlobals "BadDice" = some (some (.ref a_BadDice)))
    (x_BadDice : PySem.W.excIn K a_BadDice [.type "ValueError", .type "Exception", .type "BaseException", .type "object"] "ValueError.__new__" = true)
    (k_BadDice : PySem.W.keepIn K (.ref a_BadDice) = true)
    (b_BadDice : PySem.W.subIn K (.ref a_BadDice) (.type "BaseException") = some true)
    (t_BadDice : PySem.W.typeIn K (.ref a_BadDice) = some (.type "type"))
    (hg_BadDice : PySem.W.findIn K (.ref a_BadDice) "__getattribute__" = some (some (.builtin "BaseException.__getattribute__")))
    (hk_BadDice : PySem.W.findIn K (.ref a_BadDice) "__getattr__" = some none)
    (hd_BadDice : PySem.W.hasDictIn K a_BadDice = true)
    (ha_BadDice : PySem.W.findIn K (.ref a_BadDice) "__class__" = some (some (.builtin "object.__class__")))
    (hm_BadDice : PySem.W.mroIn K a_BadDice (.type "object") = some true)
    (g_BadNumber : PySem.W.nsIn K mainGlobals "BadNumber" = some (some (.ref a_BadNumber)))
    (x_BadNumber : PySem.W.excIn K a_BadNumber [.type "ValueError", .type "Exception", .type "BaseException", .type "object"] "ValueError.__new__" = true)
    (k_BadNumber : PySem.W.keepIn K (.ref a_BadNumber) = true)
    (b_BadNumber : PySem.W.subIn K (.ref a_BadNumber) (.type "BaseException") = some true)
    (t_BadNumber : PySem.W.typeIn K (.ref a_BadNumber) = some (.type "type"))
    (hg_BadNumber : PySem.W.findIn K (.ref a_BadNumber) "__getattribute__" = some (some (.builtin "BaseException.__getattribute__")))
    (hk_BadNumber : PySem.W.findIn K (.ref a_BadNumber) "__getattr__" = some none)
    (hd_BadNumber : PySem.W.hasDictIn K a_BadNumber = true)
    (ha_BadNumber : PySem.W.findIn K (.ref a_BadNumber) "__class__" = some (some (.builtin "object.__class__")))
    (hm_BadNumber : PySem.W.mroIn K a_BadNumber (.type "object") = some true)
    (g_BadCounts : PySem.W.nsIn K mainGlobals "BadCounts" = some (some (.ref a_BadCounts)))
    (x_BadCounts : PySem.W.excIn K a_BadCounts [.type "ValueError", .type "Exception", .type "BaseException", .type "object"] "ValueError.__new__" = true)
    (k_BadCounts : PySem.W.keepIn K (.ref a_BadCounts) = true)
    (b_BadCounts : PySem.W.subIn K (.ref a_BadCounts) (.type "BaseException") = some true)
    (t_BadCounts : PySem.W.typeIn K (.ref a_BadCounts) = some (.type "type"))
    (hg_BadCounts : PySem.W.findIn K (.ref a_BadCounts) "__getattribute__" = some (some (.builtin "BaseException.__getattribute__")))
    (hk_BadCounts : PySem.W.findIn K (.ref a_BadCounts) "__getattr__" = some none)
    (hd_BadCounts : PySem.W.hasDictIn K a_BadCounts = true)
    (ha_BadCounts : PySem.W.findIn K (.ref a_BadCounts) "__class__" = some (some (.builtin "object.__class__")))
    (hm_BadCounts : PySem.W.mroIn K a_BadCounts (.type "object") = some true)
    (s_BadDie_DiceError : PySem.W.kitOne K (.ref a_BadDie) (.ref a_DiceError) = some true)
    (e_BadDie_DiceError : PySem.W.subIn K (.ref a_BadDie) (.ref a_DiceError) = some true)
    (s_BadDie_BadDie : PySem.W.kitOne K (.ref a_BadDie) (.ref a_BadDie) = some true)
    (e_BadDie_BadDie : PySem.W.subIn K (.ref a_BadDie) (.ref a_BadDie) = some true)
    (s_BadDie_BadDice : PySem.W.kitOne K (.ref a_BadDie) (.ref a_BadDice) = some false)
    (e_BadDie_BadDice : PySem.W.subIn K (.ref a_BadDie) (.ref a_BadDice) = some false)
    (s_BadDie_BadNumber : PySem.W.kitOne K (.ref a_BadDie) (.ref a_BadNumber) = some false)
    (e_BadDie_BadNumber : PySem.W.subIn K (.ref a_BadDie) (.ref a_BadNumber) = some false)
    (s_BadDie_BadCounts : PySem.W.kitOne K (.ref a_BadDie) (.ref a_BadCounts) = some false)
    (e_BadDie_BadCounts : PySem.W.subIn K (.ref a_BadDie) (.ref a_BadCounts) = some false)
    (s_BadDice_DiceError : PySem.W.kitOne K (.ref a_BadDice) (.ref a_DiceError) = some true)
    (e_BadDice_DiceError : PySem.W.subIn K (.ref a_BadDice) (.ref a_DiceError) = some true)
    (s_BadDice_BadDie : PySem.W.kitOne K (.ref a_BadDice) (.ref a_BadDie) = some false)
    (e_BadDice_BadDie : PySem.W.subIn K (.ref a_BadDice) (.ref a_BadDie) = some false)
    (s_BadDice_BadDice : PySem.W.kitOne K (.ref a_BadDice) (.ref a_BadDice) = some true)
    (e_BadDice_BadDice : PySem.W.subIn K (.ref a_BadDice) (.ref a_BadDice) = some true)
    (s_BadDice_BadNumber : PySem.W.kitOne K (.ref a_BadDice) (.ref a_BadNumber) = some false)
    (e_BadDice_BadNumber : PySem.W.subIn K (.ref a_BadDice) (.ref a_BadNumber) = some false)
    (s_BadDice_BadCounts : PySem.W.kitOne K (.ref a_BadDice) (.ref a_BadCounts) = some false)
    (e_BadDice_BadCounts : PySem.W.subIn K (.ref a_BadDice) (.ref a_BadCounts) = some false)
    (s_BadNumber_DiceError : PySem.W.kitOne K (.ref a_BadNumber) (.ref a_DiceError) = some true)
    (e_BadNumber_DiceError : PySem.W.subIn K (.ref a_BadNumber) (.ref a_DiceError) = some true)
    (s_BadNumber_BadDie : PySem.W.kitOne K (.ref a_BadNumber) (.ref a_BadDie) = some false)
    (e_BadNumber_BadDie : PySem.W.subIn K (.ref a_BadNumber) (.ref a_BadDie) = some false)
    (s_BadNumber_BadDice : PySem.W.kitOne K (.ref a_BadNumber) (.ref a_BadDice) = some false)
    (e_BadNumber_BadDice : PySem.W.subIn K (.ref a_BadNumber) (.ref a_BadDice) = some false)
    (s_BadNumber_BadNumber : PySem.W.kitOne K (.ref a_BadNumber) (.ref a_BadNumber) = some true)
    (e_BadNumber_BadNumber : PySem.W.subIn K (.ref a_BadNumber) (.ref a_BadNumber) = some true)
    (s_BadNumber_BadCounts : PySem.W.kitOne K (.ref a_BadNumber) (.ref a_BadCounts) = some false)
    (e_BadNumber_BadCounts : PySem.W.subIn K (.ref a_BadNumber) (.ref a_BadCounts) = some false)
    (s_BadCounts_DiceError : PySem.W.kitOne K (.ref a_BadCounts) (.ref a_DiceError) = some true)
    (e_BadCounts_DiceError : PySem.W.subIn K (.ref a_BadCounts) (.ref a_DiceError) = some true)
    (s_BadCounts_BadDie : PySem.W.kitOne K (.ref a_BadCounts) (.ref a_BadDie) = some false)
    (e_BadCounts_BadDie : PySem.W.subIn K (.ref a_BadCounts) (.ref a_BadDie) = some false)
    (s_BadCounts_BadDice : PySem.W.kitOne K (.ref a_BadCounts) (.ref a_BadDice) = some false)
    (e_BadCounts_BadDice : PySem.W.subIn K (.ref a_BadCounts) (.ref a_BadDice) = some false)
    (s_BadCounts_BadNumber : PySem.W.kitOne K (.ref a_BadCounts) (.ref a_BadNumber) = some false)
    (e_BadCounts_BadNumber : PySem.W.subIn K (.ref a_BadCounts) (.ref a_BadNumber) = some false)
    (s_BadCounts_BadCounts : PySem.W.kitOne K (.ref a_BadCounts) (.ref a_BadCounts) = some true)
    (e_BadCounts_BadCounts : PySem.W.subIn K (.ref a_BadCounts) (.ref a_BadCounts) = some true)
    (z_DiceError : PySem.W.kitOne K (.type "NoneType") (.ref a_DiceError) = some false)
    (v_DiceError : PySem.W.kitOne K (.ref a_DiceError) (.type "ValueError") = some true)
    (z_BadDie : PySem.W.kitOne K (.type "NoneType") (.ref a_BadDie) = some false)
    (v_BadDie : PySem.W.kitOne K (.ref a_BadDie) (.type "ValueError") = some true)
    (z_BadDice : PySem.W.kitOne K (.type "NoneType") (.ref a_BadDice) = some false)
    (v_BadDice : PySem.W.kitOne K (.ref a_BadDice) (.type "ValueError") = some true)
    (z_BadNumber : PySem.W.kitOne K (.type "NoneType") (.ref a_BadNumber) = some false)
    (v_BadNumber : PySem.W.kitOne K (.ref a_BadNumber) (.type "ValueError") = some true)
    (z_BadCounts : PySem.W.kitOne K (.type "NoneType") (.ref a_BadCounts) = some false)
    (v_BadCounts : PySem.W.kitOne K (.ref a_BadCounts) (.type "ValueError") = some true)
    (g_is_number : PySem.W.nsIn K mainGlobals "is_number" = some (some (.ref a_is_number)))
    (l_is_number : K.lookup a_is_number = some ⟨i_is_number, o_is_number, .func (PySem.W.fnOf "is_number" "is_number" (defArgs st_is_number) (defBody st_is_number) (defScope st_is_number) .none j_is_number u_is_number v_is_number w_is_number r_is_number y_is_number), q_is_number⟩)
    (p_is_number : PySem.W.codeIn K r_is_number "is_number" = true)
    (k_is_number : PySem.W.keepIn K (.ref a_is_number) = true)
    (g_is_face : PySem.W.nsIn K mainGlobals "is_face" = some (some (.ref a_is_face)))
    (l_is_face : K.lookup a_is_face = some ⟨i_is_face, o_is_face, .func (PySem.W.fnOf "is_face" "is_face" (defArgs st_is_face) (defBody st_is_face) (defScope st_is_face) .none j_is_face u_is_face v_is_face w_is_face r_is_face y_is_face), q_is_face⟩)
    (p_is_face : PySem.W.codeIn K r_is_face "is_face" = true)
    (k_is_face : PySem.W.keepIn K (.ref a_is_face) = true)
    (g_is_die : PySem.W.nsIn K mainGlobals "is_die" = some (some (.ref a_is_die)))
    (l_is_die : K.lookup a_is_die = some ⟨i_is_die, o_is_die, .func (PySem.W.fnOf "is_die" "is_die" (defArgs st_is_die) (defBody st_is_die) (defScope st_is_die) .none j_is_die u_is_die v_is_die w_is_die r_is_die y_is_die), q_is_die⟩)
    (p_is_die : PySem.W.codeIn K r_is_die "is_die" = true)
    (k_is_die : PySem.W.keepIn K (.ref a_is_die) = true)
    (g_need_die : PySem.W.nsIn K mainGlobals "need_die" = some (some (.ref a_need_die)))
    (l_need_die : K.lookup a_need_die = some ⟨i_need_die, o_need_die, .func (PySem.W.fnOf "need_die" "need_die" (defArgs st_need_die) (defBody st_need_die) (defScope st_need_die) .none j_need_die u_need_die v_need_die w_need_die r_need_die y_need_die), q_need_die⟩)
    (p_need_die : PySem.W.codeIn K r_need_die "need_die" = true)
    (k_need_die : PySem.W.keepIn K (.ref a_need_die) = true)
    (g_need_dice : PySem.W.nsIn K mainGlobals "need_dice" = some (some (.ref a_need_dice)))
    (l_need_dice : K.lookup a_need_dice = some ⟨i_need_dice, o_need_dice, .func (PySem.W.fnOf "need_dice" "need_dice" (defArgs st_need_dice) (defBody st_need_dice) (defScope st_need_dice) .none j_need_dice u_need_dice v_need_dice w_need_dice r_need_dice y_need_dice), q_need_dice⟩)
    (p_need_dice : PySem.W.codeIn K r_need_dice "need_dice" = true)
    (k_need_dice : PySem.W.keepIn K (.ref a_need_dice) = true)
    (g_counts : PySem.W.nsIn K mainGlobals "counts" = some (some (.ref a_counts)))
    (l_counts : K.lookup a_counts = some ⟨i_counts, o_counts, .func (PySem.W.fnOf "counts" "counts" (defArgs st_counts) (defBody st_counts) (defScope st_counts) .none j_counts u_counts v_counts w_counts r_counts y_counts), q_counts⟩)
    (p_counts : PySem.W.codeIn K r_counts "counts" = true)
    (k_counts : PySem.W.keepIn K (.ref a_counts) = true)
    (g_ways_with : PySem.W.nsIn K mainGlobals "ways_with" = some (some (.ref a_ways_with)))
    (l_ways_with : K.lookup a_ways_with = some ⟨i_ways_with, o_ways_with, .func (PySem.W.fnOf "ways_with" "ways_with" (defArgs st_ways_with) (defBody st_ways_with) (defScope st_ways_with) .none j_ways_with u_ways_with v_ways_with w_ways_with r_ways_with y_ways_with), q_ways_with⟩)
    (p_ways_with : PySem.W.codeIn K r_ways_with "ways_with" = true)
    (k_ways_with : PySem.W.keepIn K (.ref a_ways_with) = true)
    (g_pairs_of : PySem.W.nsIn K mainGlobals "pairs_of" = some (some (.ref a_pairs_of)))
    (l_pairs_of : K.lookup a_pairs_of = some ⟨i_pairs_of, o_pairs_of, .func (PySem.W.fnOf "pairs_of" "pairs_of" (defArgs st_pairs_of) (defBody st_pairs_of) (defScope st_pairs_of) .none j_pairs_of u_pairs_of v_pairs_of w_pairs_of r_pairs_of y_pairs_of), q_pairs_of⟩)
    (p_pairs_of : PySem.W.codeIn K r_pairs_of "pairs_of" = true)
    (k_pairs_of : PySem.W.keepIn K (.ref a_pairs_of) = true)
    (g_alike : PySem.W.nsIn K mainGlobals "alike" = some (some (.ref a_alike)))
    (l_alike : K.lookup a_alike = some ⟨i_alike, o_alike, .func (PySem.W.fnOf "alike" "alike" (defArgs st_alike) (defBody st_alike) (defScope st_alike) .none j_alike u_alike v_alike w_alike r_alike y_alike), q_alike⟩)
    (p_alike : PySem.W.codeIn K r_alike "alike" = true)
    (k_alike : PySem.W.keepIn K (.ref a_alike) = true)
    (g_need_many_faces : PySem.W.nsIn K mainGlobals "need_many_faces" = some (some (.ref a_need_many_faces)))
    (l_need_many_faces : K.lookup a_need_many_faces = some ⟨i_need_many_faces, o_need_many_faces, .func (PySem.W.fnOf "need_many_faces" "need_many_faces" (defArgs st_need_many_faces) (defBody st_need_many_faces) (defScope st_need_many_faces) .none j_need_many_faces u_need_many_faces v_need_many_faces w_need_many_faces r_need_many_faces y_need_many_faces), q_need_many_faces⟩)
    (p_need_many_faces : PySem.W.codeIn K r_need_many_faces "need_many_faces" = true)
    (k_need_many_faces : PySem.W.keepIn K (.ref a_need_many_faces) = true)
    (g_need_pair_die : PySem.W.nsIn K mainGlobals "need_pair_die" = some (some (.ref a_need_pair_die)))
    (l_need_pair_die : K.lookup a_need_pair_die = some ⟨i_need_pair_die, o_need_pair_die, .func (PySem.W.fnOf "need_pair_die" "need_pair_die" (defArgs st_need_pair_die) (defBody st_need_pair_die) (defScope st_need_pair_die) .none j_need_pair_die u_need_pair_die v_need_pair_die w_need_pair_die r_need_pair_die y_need_pair_die), q_need_pair_die⟩)
    (p_need_pair_die : PySem.W.codeIn K r_need_pair_die "need_pair_die" = true)
    (k_need_pair_die : PySem.W.keepIn K (.ref a_need_pair_die) = true)
    (g_need_counts : PySem.W.nsIn K mainGlobals "need_counts" = some (some (.ref a_need_counts)))
    (l_need_counts : K.lookup a_need_counts = some ⟨i_need_counts, o_need_counts, .func (PySem.W.fnOf "need_counts" "need_counts" (defArgs st_need_counts) (defBody st_need_counts) (defScope st_need_counts) .none j_need_counts u_need_counts v_need_counts w_need_counts r_need_counts y_need_counts), q_need_counts⟩)
    (p_need_counts : PySem.W.codeIn K r_need_counts "need_counts" = true)
    (k_need_counts : PySem.W.keepIn K (.ref a_need_counts) = true)
    (g_is_row : PySem.W.nsIn K mainGlobals "is_row" = some (some (.ref a_is_row)))
    (l_is_row : K.lookup a_is_row = some ⟨i_is_row, o_is_row, .func (PySem.W.fnOf "is_row" "is_row" (defArgs st_is_row) (defBody st_is_row) (defScope st_is_row) .none j_is_row u_is_row v_is_row w_is_row r_is_row y_is_row), q_is_row⟩)
    (p_is_row : PySem.W.codeIn K r_is_row "is_row" = true)
    (k_is_row : PySem.W.keepIn K (.ref a_is_row) = true)
    (g_with_a_face_more : PySem.W.nsIn K mainGlobals "with_a_face_more" = some (some (.ref a_with_a_face_more)))
    (l_with_a_face_more : K.lookup a_with_a_face_more = some ⟨i_with_a_face_more, o_with_a_face_more, .func (PySem.W.fnOf "with_a_face_more" "with_a_face_more" (defArgs st_with_a_face_more) (defBody st_with_a_face_more) (defScope st_with_a_face_more) .none j_with_a_face_more u_with_a_face_more v_with_a_face_more w_with_a_face_more r_with_a_face_more y_with_a_face_more), q_with_a_face_more⟩)
    (p_with_a_face_more : PySem.W.codeIn K r_with_a_face_more "with_a_face_more" = true)
    (k_with_a_face_more : PySem.W.keepIn K (.ref a_with_a_face_more) = true)
    (g_without : PySem.W.nsIn K mainGlobals "without" = some (some (.ref a_without)))
    (l_without : K.lookup a_without = some ⟨i_without, o_without, .func (PySem.W.fnOf "without" "without" (defArgs st_without) (defBody st_without) (defScope st_without) .none j_without u_without v_without w_without r_without y_without), q_without⟩)
    (p_without : PySem.W.codeIn K r_without "without" = true)
    (k_without : PySem.W.keepIn K (.ref a_without) = true)
    (g_law_draw : PySem.W.nsIn K mainGlobals "_law_draw" = some (some (.ref a_law_draw)))
    (l_law_draw : K.lookup a_law_draw = some ⟨i_law_draw, o_law_draw, .func (PySem.W.fnOf "_law_draw" "_law_draw" (defArgs st_law_draw) (defBody st_law_draw) (defScope st_law_draw) .none j_law_draw u_law_draw v_law_draw w_law_draw r_law_draw y_law_draw), q_law_draw⟩)
    (p_law_draw : PySem.W.codeIn K r_law_draw "_law_draw" = true)
    (k_law_draw : PySem.W.keepIn K (.ref a_law_draw) = true)
    (g_law_die : PySem.W.nsIn K mainGlobals "_law_die" = some (some (.ref a_law_die)))
    (l_law_die : K.lookup a_law_die = some ⟨i_law_die, o_law_die, .func (PySem.W.fnOf "_law_die" "_law_die" (defArgs st_law_die) (defBody st_law_die) (defScope st_law_die) .none j_law_die u_law_die v_law_die w_law_die r_law_die y_law_die), q_law_die⟩)
    (p_law_die : PySem.W.codeIn K r_law_die "_law_die" = true)
    (k_law_die : PySem.W.keepIn K (.ref a_law_die) = true)
    (g_law_throws : PySem.W.nsIn K mainGlobals "_law_throws" = some (some (.ref a_law_throws)))
    (l_law_throws : K.lookup a_law_throws = some ⟨i_law_throws, o_law_throws, .func (PySem.W.fnOf "_law_throws" "_law_throws" (defArgs st_law_throws) (defBody st_law_throws) (defScope st_law_throws) .none j_law_throws u_law_throws v_law_throws w_law_throws r_law_throws y_law_throws), q_law_throws⟩)
    (p_law_throws : PySem.W.codeIn K r_law_throws "_law_throws" = true)
    (k_law_throws : PySem.W.keepIn K (.ref a_law_throws) = true)
    (g_law_counted : PySem.W.nsIn K mainGlobals "_law_counted" = some (some (.ref a_law_counted)))
    (l_law_counted : K.lookup a_law_counted = some ⟨i_law_counted, o_law_counted, .func (PySem.W.fnOf "_law_counted" "_law_counted" (defArgs st_law_counted) (defBody st_law_counted) (defScope st_law_counted) .none j_law_counted u_law_counted v_law_counted w_law_counted r_law_counted y_law_counted), q_law_counted⟩)
    (p_law_counted : PySem.W.codeIn K r_law_counted "_law_counted" = true)
    (k_law_counted : PySem.W.keepIn K (.ref a_law_counted) = true)
    (g_law_good : PySem.W.nsIn K mainGlobals "_law_good" = some (some (.ref a_law_good)))
    (l_law_good : K.lookup a_law_good = some ⟨i_law_good, o_law_good, .func (PySem.W.fnOf "_law_good" "_law_good" (defArgs st_law_good) (defBody st_law_good) (defScope st_law_good) .none j_law_good u_law_good v_law_good w_law_good r_law_good y_law_good), q_law_good⟩)
    (p_law_good : PySem.W.codeIn K r_law_good "_law_good" = true)
    (k_law_good : PySem.W.keepIn K (.ref a_law_good) = true)
    (g_law_changed : PySem.W.nsIn K mainGlobals "_law_changed" = some (some (.ref a_law_changed)))
    (l_law_changed : K.lookup a_law_changed = some ⟨i_law_changed, o_law_changed, .func (PySem.W.fnOf "_law_changed" "_law_changed" (defArgs st_law_changed) (defBody st_law_changed) (defScope st_law_changed) .none j_law_changed u_law_changed v_law_changed w_law_changed r_law_changed y_law_changed), q_law_changed⟩)
    (p_law_changed : PySem.W.codeIn K r_law_changed "_law_changed" = true)
    (k_law_changed : PySem.W.keepIn K (.ref a_law_changed) = true)
    (g_law : PySem.W.nsIn K mainGlobals "law" = some (some (.ref a_law)))
    (l_law : K.lookup a_law = some ⟨i_law, o_law, .func (PySem.W.fnOf "law" "law" (defArgs st_law) (defBody st_law) (defScope st_law) .none j_law u_law v_law w_law r_law y_law), q_law⟩)
    (p_law : PySem.W.codeIn K r_law "law" = true)
    (k_law : PySem.W.keepIn K (.ref a_law) = true) :
    ∃ fd : FuncData, (∀ (s : Shared) (v : Value), BindsTo s fd ⟨[v], []⟩ [("_law_script", v)]) ∧ ∀ base : Heap, K.In base → base.Ns mainGlobals mg → FnOk l.prog w K mg base CX0 10 fa fd ["_law_script"] (spLaw K) := by
  have e := hfa.symm.trans (PySem.W.mg_of X G g_law)
  cases e
  exact ⟨(lay_mk X G n_isinstance n_int n_bool n_list n_len n_all n_sorted n_dict n_range n_min n_zip n_sum n_tuple n_set n_max n_ValueError c_MOST_FACES c_GREATEST_FACE c_MOST_DICE c_MOST_PAIR_FACES c_GREATEST_SUM hn ht g_DiceError x_DiceError k_DiceError b_DiceError t_DiceError hg_DiceError hk_DiceError hd_DiceError ha_DiceError hm_DiceError g_BadDie x_BadDie k_BadDie b_BadDie t_BadDie hg_BadDie hk_BadDie hd_BadDie ha_BadDie hm_BadDie g_BadDice x_BadDice k_BadDice b_BadDice t_BadDice hg_BadDice hk_BadDice hd_BadDice ha_BadDice hm_BadDice g_BadNumber x_BadNumber k_BadNumber b_BadNumber t_BadNumber hg_BadNumber hk_BadNumber hd_BadNumber ha_BadNumber hm_BadNumber g_BadCounts x_BadCounts k_BadCounts b_BadCounts t_BadCounts hg_BadCounts hk_BadCounts hd_BadCounts ha_BadCounts hm_BadCounts s_BadDie_DiceError e_BadDie_DiceError s_BadDie_BadDie e_BadDie_BadDie s_BadDie_BadDice e_BadDie_BadDice s_BadDie_BadNumber e_BadDie_BadNumber s_BadDie_BadCounts e_BadDie_BadCounts s_BadDice_DiceError e_BadDice_DiceError s_BadDice_BadDie e_BadDice_BadDie s_BadDice_BadDice e_BadDice_BadDice s_BadDice_BadNumber e_BadDice_BadNumber s_BadDice_BadCounts e_BadDice_BadCounts s_BadNumber_DiceError e_BadNumber_DiceError s_BadNumber_BadDie e_BadNumber_BadDie s_BadNumber_BadDice e_BadNumber_BadDice s_BadNumber_BadNumber e_BadNumber_BadNumber s_BadNumber_BadCounts e_BadNumber_BadCounts s_BadCounts_DiceError e_BadCounts_DiceError s_BadCounts_BadDie e_BadCounts_BadDie s_BadCounts_BadDice e_BadCounts_BadDice s_BadCounts_BadNumber e_BadCounts_BadNumber s_BadCounts_BadCounts e_BadCounts_BadCounts z_DiceError v_DiceError z_BadDie v_BadDie z_BadDice v_BadDice z_BadNumber v_BadNumber z_BadCounts v_BadCounts g_is_number l_is_number p_is_number k_is_number g_is_face l_is_face p_is_face k_is_face g_is_die l_is_die p_is_die k_is_die g_need_die l_need_die p_need_die k_need_die g_need_dice l_need_dice p_need_dice k_need_dice g_counts l_counts p_counts k_counts g_ways_with l_ways_with p_ways_with k_ways_with g_pairs_of l_pairs_of p_pairs_of k_pairs_of g_alike l_alike p_alike k_alike g_need_many_faces l_need_many_faces p_need_many_faces k_need_many_faces g_need_pair_die l_need_pair_die p_need_pair_die k_need_pair_die g_need_counts l_need_counts p_need_counts k_need_counts g_is_row l_is_row p_is_row k_is_row g_with_a_face_more l_with_a_face_more p_with_a_face_more k_with_a_face_more g_without l_without p_without k_without g_law_draw l_law_draw p_law_draw k_law_draw g_law_die l_law_die p_law_die k_law_die g_law_throws l_law_throws p_law_throws k_law_throws g_law_counted l_law_counted p_law_counted k_law_counted g_law_good l_law_good p_law_good k_law_good g_law_changed l_law_changed p_law_changed k_law_changed g_law l_law p_law k_law).d_law, fun s v => .of_eq rfl, fun base _ _ => ok_law (lay_mk X G n_isinstance n_int n_bool n_list n_len n_all n_sorted n_dict n_range n_min n_zip n_sum n_tuple n_set n_max n_ValueError c_MOST_FACES c_GREATEST_FACE c_MOST_DICE c_MOST_PAIR_FACES c_GREATEST_SUM hn ht g_DiceError x_DiceError k_DiceError b_DiceError t_DiceError hg_DiceError hk_DiceError hd_DiceError ha_DiceError hm_DiceError g_BadDie x_BadDie k_BadDie b_BadDie t_BadDie hg_BadDie hk_BadDie hd_BadDie ha_BadDie hm_BadDie g_BadDice x_BadDice k_BadDice b_BadDice t_BadDice hg_BadDice hk_BadDice hd_BadDice ha_BadDice hm_BadDice g_BadNumber x_BadNumber k_BadNumber b_BadNumber t_BadNumber hg_BadNumber hk_BadNumber hd_BadNumber ha_BadNumber hm_BadNumber g_BadCounts x_BadCounts k_BadCounts b_BadCounts t_BadCounts hg_BadCounts hk_BadCounts hd_BadCounts ha_BadCounts hm_BadCounts s_BadDie_DiceError e_BadDie_DiceError s_BadDie_BadDie e_BadDie_BadDie s_BadDie_BadDice e_BadDie_BadDice s_BadDie_BadNumber e_BadDie_BadNumber s_BadDie_BadCounts e_BadDie_BadCounts s_BadDice_DiceError e_BadDice_DiceError s_BadDice_BadDie e_BadDice_BadDie s_BadDice_BadDice e_BadDice_BadDice s_BadDice_BadNumber e_BadDice_BadNumber s_BadDice_BadCounts e_BadDice_BadCounts s_BadNumber_DiceError e_BadNumber_DiceError s_BadNumber_BadDie e_BadNumber_BadDie s_BadNumber_BadDice e_BadNumber_BadDice s_BadNumber_BadNumber e_BadNumber_BadNumber s_BadNumber_BadCounts e_BadNumber_BadCounts s_BadCounts_DiceError e_BadCounts_DiceError s_BadCounts_BadDie e_BadCounts_BadDie s_BadCounts_BadDice e_BadCounts_BadDice s_BadCounts_BadNumber e_BadCounts_BadNumber s_BadCounts_BadCounts e_BadCounts_BadCounts z_DiceError v_DiceError z_BadDie v_BadDie z_BadDice v_BadDice z_BadNumber v_BadNumber z_BadCounts v_BadCounts g_is_number l_is_number p_is_number k_is_number g_is_face l_is_face p_is_face k_is_face g_is_die l_is_die p_is_die k_is_die g_need_die l_need_die p_need_die k_need_die g_need_dice l_need_dice p_need_dice k_need_dice g_counts l_counts p_counts k_counts g_ways_with l_ways_with p_ways_with k_ways_with g_pairs_of l_pairs_of p_pairs_of k_pairs_of g_alike l_alike p_alike k_alike g_need_many_faces l_need_many_faces p_need_many_faces k_need_many_faces g_need_pair_die l_need_pair_die p_need_pair_die k_need_pair_die g_need_counts l_need_counts p_need_counts k_need_counts g_is_row l_is_row p_is_row k_is_row g_with_a_face_more l_with_a_face_more p_with_a_face_more k_with_a_face_more g_without l_without p_without k_without g_law_draw l_law_draw p_law_draw k_law_draw g_law_die l_law_die p_law_die k_law_die g_law_throws l_law_throws p_law_throws k_law_throws g_law_counted l_law_counted p_law_counted k_law_counted g_law_good l_law_good p_law_good k_law_good g_law_changed l_law_changed p_law_changed k_law_changed g_law l_law p_law k_law)⟩
end My
open PySem PySem.W PyProof.Rows
set_option maxHeartbeats 0 in
theorem PySem.Challenge.cw_dicepairs_k09_whole_alike_dice_holds : PySem.Challenge.rw_dicepairs_k09_whole_alike_dice.Holds := by
  w_on; o_law; k_head; (case hw => w_witness2)
  k_fill
  refine L2.walk_of (l := PySem.Challenge.rw_dicepairs_k09_whole_alike_dice) (n := 63) (k := 10) (x := "_law_script") (CX := fun _ => L2.CX0) (sp := fun w => My.spLaw _) rfl (by decide) rfl ⟨rfl, by decide, by decide⟩ (fun w h Y => PySem.W.kIn_of Y) ?F (fun _ _ a ns hl _ hS => ⟨a, ns, rfl, hS, hl, fun _ => rfl⟩) (fun _ _ _ _ _ h => h)
  case F =>
    intro w mg fa h KX G hmg
    refine' My.all_mk KX G hmg ?n_isinstance ?n_int ?n_bool ?n_list ?n_len ?n_all ?n_sorted ?n_dict ?n_range ?n_min ?n_zip ?n_sum ?n_tuple ?n_set ?n_max ?n_ValueError ?c_MOST_FACES ?c_GREATEST_FACE ?c_MOST_DICE ?c_MOST_PAIR_FACES ?c_GREATEST_SUM ?hn ?ht ?g_DiceError ?x_DiceError ?k_DiceError ?b_DiceError ?t_DiceError ?hg_DiceError ?hk_DiceError ?hd_DiceError ?ha_DiceError ?hm_DiceError ?g_BadDie ?x_BadDie ?k_BadDie ?b_BadDie ?t_BadDie ?hg_BadDie ?hk_BadDie ?hd_BadDie ?ha_BadDie ?hm_BadDie ?g_BadDice ?x_BadDice ?k_BadDice ?b_BadDice ?t_BadDice ?hg_BadDice ?hk_BadDice ?hd_BadDice ?ha_BadDice ?hm_BadDice ?g_BadNumber ?x_BadNumber ?k_BadNumber ?b_BadNumber ?t_BadNumber ?hg_BadNumber ?hk_BadNumber ?hd_BadNumber ?ha_BadNumber ?hm_BadNumber ?g_BadCounts ?x_BadCounts ?k_BadCounts ?b_BadCounts ?t_BadCounts ?hg_BadCounts ?hk_BadCounts ?hd_BadCounts ?ha_BadCounts ?hm_BadCounts ?s_BadDie_DiceError ?e_BadDie_DiceError ?s_BadDie_BadDie ?e_BadDie_BadDie ?s_BadDie_BadDice ?e_BadDie_BadDice ?s_BadDie_BadNumber ?e_BadDie_BadNumber ?s_BadDie_BadCounts ?e_BadDie_BadCounts ?s_BadDice_DiceError ?e_BadDice_DiceError ?s_BadDice_BadDie ?e_BadDice_BadDie ?s_BadDice_BadDice ?e_BadDice_BadDice ?s_BadDice_BadNumber ?e_BadDice_BadNumber ?s_BadDice_BadCounts ?e_BadDice_BadCounts ?s_BadNumber_DiceError ?e_BadNumber_DiceError ?s_BadNumber_BadDie ?e_BadNumber_BadDie ?s_BadNumber_BadDice ?e_BadNumber_BadDice ?s_BadNumber_BadNumber ?e_BadNumber_BadNumber ?s_BadNumber_BadCounts ?e_BadNumber_BadCounts ?s_BadCounts_DiceError ?e_BadCounts_DiceError ?s_BadCounts_BadDie ?e_BadCounts_BadDie ?s_BadCounts_BadDice ?e_BadCounts_BadDice ?s_BadCounts_BadNumber ?e_BadCounts_BadNumber ?s_BadCounts_BadCounts ?e_BadCounts_BadCounts ?z_DiceError ?v_DiceError ?z_BadDie ?v_BadDie ?z_BadDice ?v_BadDice ?z_BadNumber ?v_BadNumber ?z_BadCounts ?v_BadCounts ?g_is_number ?l_is_number ?p_is_number ?k_is_number ?g_is_face ?l_is_face ?p_is_face ?k_is_face ?g_is_die ?l_is_die ?p_is_die ?k_is_die ?g_need_die ?l_need_die ?p_need_die ?k_need_die ?g_need_dice ?l_need_dice ?p_need_dice ?k_need_dice ?g_counts ?l_counts ?p_counts ?k_counts ?g_ways_with ?l_ways_with ?p_ways_with ?k_ways_with ?g_pairs_of ?l_pairs_of ?p_pairs_of ?k_pairs_of ?g_alike ?l_alike ?p_alike ?k_alike ?g_need_many_faces ?l_need_many_faces ?p_need_many_faces ?k_need_many_faces ?g_need_pair_die ?l_need_pair_die ?p_need_pair_die ?k_need_pair_die ?g_need_counts ?l_need_counts ?p_need_counts ?k_need_counts ?g_is_row ?l_is_row ?p_is_row ?k_is_row ?g_with_a_face_more ?l_with_a_face_more ?p_with_a_face_more ?k_with_a_face_more ?g_without ?l_without ?p_without ?k_without ?g_law_draw ?l_law_draw ?p_law_draw ?k_law_draw ?g_law_die ?l_law_die ?p_law_die ?k_law_die ?g_law_throws ?l_law_throws ?p_law_throws ?k_law_throws ?g_law_counted ?l_law_counted ?p_law_counted ?k_law_counted ?g_law_good ?l_law_good ?p_law_good ?k_law_good ?g_law_changed ?l_law_changed ?p_law_changed ?k_law_changed ?g_law ?l_law ?p_law ?k_law
    (case n_isinstance => first | k_is | rfl)
    (case n_int => first | k_is | rfl)
    (case n_bool => first | k_is | rfl)
    (case n_list => first | k_is | rfl)
    (case n_len => first | k_is | rfl)
    (case n_all => first | k_is | rfl)
    (case n_sorted => first | k_is | rfl)
    (case n_dict => first | k_is | rfl)
    (case n_range => first | k_is | rfl)
    (case n_min => first | k_is | rfl)
    (case n_zip => first | k_is | rfl)
    (case n_sum => first | k_is | rfl)
    (case n_tuple => first | k_is | rfl)
    (case n_set => first | k_is | rfl)
    (case n_max => first | k_is | rfl)
    (case n_ValueError => first | k_is | rfl)
    (case c_MOST_FACES => first | k_is | rfl)
    (case c_GREATEST_FACE => first | k_is | rfl)
    (case c_MOST_DICE => first | k_is | rfl)
    (case c_MOST_PAIR_FACES => first | k_is | rfl)
    (case c_GREATEST_SUM => first | k_is | rfl)
    (case hn => first | k_is | rfl)
    (case ht => first | k_is | rfl)
    (case g_DiceError => first | k_is | rfl)
    (case x_DiceError => k_exc)
    (case k_DiceError => first | k_is | rfl)
    (case b_DiceError => first | k_is | rfl)
    (case t_DiceError => first | k_is | rfl)
    (case hg_DiceError => first | k_is | rfl)
    (case hk_DiceError => first | k_is | rfl)
    (case hd_DiceError => first | k_is | rfl)
    (case ha_DiceError => first | k_is | rfl)
    (case hm_DiceError => first | k_is | rfl)
    (case g_BadDie => first | k_is | rfl)
    (case x_BadDie => k_exc)
    (case k_BadDie => first | k_is | rfl)
    (case b_BadDie => first | k_is | rfl)
    (case t_BadDie => first | k_is | rfl)
    (case hg_BadDie => first | k_is | rfl)
    (case hk_BadDie => first | k_is | rfl)
    (case hd_BadDie => first | k_is | rfl)
    (case ha_BadDie => first | k_is | rfl)
    (case hm_BadDie => first | k_is | rfl)
    (case g_BadDice => first | k_is | rfl)
    (case x_BadDice => k_exc)
    (case k_BadDice => first | k_is | rfl)
    (case b_BadDice => first | k_is | rfl)
    (case t_BadDice => first | k_is | rfl)
    (case hg_BadDice => first | k_is | rfl)
    (case hk_BadDice => first | k_is | rfl)
    (case hd_BadDice => first | k_is | rfl)
    (case ha_BadDice => first | k_is | rfl)
    (case hm_BadDice => first | k_is | rfl)
    (case g_BadNumber => first | k_is | rfl)
    (case x_BadNumber => k_exc)
    (case k_BadNumber => first | k_is | rfl)
    (case b_BadNumber => first | k_is | rfl)
    (case t_BadNumber => first | k_is | rfl)
    (case hg_BadNumber => first | k_is | rfl)
    (case hk_BadNumber => first | k_is | rfl)
    (case hd_BadNumber => first | k_is | rfl)
    (case ha_BadNumber => first | k_is | rfl)
    (case hm_BadNumber => first | k_is | rfl)
    (case g_BadCounts => first | k_is | rfl)
    (case x_BadCounts => k_exc)
    (case k_BadCounts => first | k_is | rfl)
    (case b_BadCounts => first | k_is | rfl)
    (case t_BadCounts => first | k_is | rfl)
    (case hg_BadCounts => first | k_is | rfl)
    (case hk_BadCounts => first | k_is | rfl)
    (case hd_BadCounts => first | k_is | rfl)
    (case ha_BadCounts => first | k_is | rfl)
    (case hm_BadCounts => first | k_is | rfl)
    (case s_BadDie_DiceError => first | k_is | rfl)
    (case e_BadDie_DiceError => first | k_is | rfl)
    (case s_BadDie_BadDie => first | k_is | rfl)
    (case e_BadDie_BadDie => first | k_is | rfl)
    (case s_BadDie_BadDice => first | k_is | rfl)
    (case e_BadDie_BadDice => first | k_is | rfl)
    (case s_BadDie_BadNumber => first | k_is | rfl)
    (case e_BadDie_BadNumber => first | k_is | rfl)
    (case s_BadDie_BadCounts => first | k_is | rfl)
    (case e_BadDie_BadCounts => first | k_is | rfl)
    (case s_BadDice_DiceError => first | k_is | rfl)
    (case e_BadDice_DiceError => first | k_is | rfl)
    (case s_BadDice_BadDie => first | k_is | rfl)
    (case e_BadDice_BadDie => first | k_is | rfl)
    (case s_BadDice_BadDice => first | k_is | rfl)
    (case e_BadDice_BadDice => first | k_is | rfl)
    (case s_BadDice_BadNumber => first | k_is | rfl)
    (case e_BadDice_BadNumber => first | k_is | rfl)
    (case s_BadDice_BadCounts => first | k_is | rfl)
    (case e_BadDice_BadCounts => first | k_is | rfl)
    (case s_BadNumber_DiceError => first | k_is | rfl)
    (case e_BadNumber_DiceError => first | k_is | rfl)
    (case s_BadNumber_BadDie => first | k_is | rfl)
    (case e_BadNumber_BadDie => first | k_is | rfl)
    (case s_BadNumber_BadDice => first | k_is | rfl)
    (case e_BadNumber_BadDice => first | k_is | rfl)
    (case s_BadNumber_BadNumber => first | k_is | rfl)
    (case e_BadNumber_BadNumber => first | k_is | rfl)
    (case s_BadNumber_BadCounts => first | k_is | rfl)
    (case e_BadNumber_BadCounts => first | k_is | rfl)
    (case s_BadCounts_DiceError => first | k_is | rfl)
    (case e_BadCounts_DiceError => first | k_is | rfl)
    (case s_BadCounts_BadDie => first | k_is | rfl)
    (case e_BadCounts_BadDie => first | k_is | rfl)
    (case s_BadCounts_BadDice => first | k_is | rfl)
    (case e_BadCounts_BadDice => first | k_is | rfl)
    (case s_BadCounts_BadNumber => first | k_is | rfl)
    (case e_BadCounts_BadNumber => first | k_is | rfl)
    (case s_BadCounts_BadCounts => first | k_is | rfl)
    (case e_BadCounts_BadCounts => first | k_is | rfl)
    (case z_DiceError => first | k_is | rfl)
    (case v_DiceError => first | k_is | rfl)
    (case z_BadDie => first | k_is | rfl)
    (case v_BadDie => first | k_is | rfl)
    (case z_BadDice => first | k_is | rfl)
    (case v_BadDice => first | k_is | rfl)
    (case z_BadNumber => first | k_is | rfl)
    (case v_BadNumber => first | k_is | rfl)
    (case z_BadCounts => first | k_is | rfl)
    (case v_BadCounts => first | k_is | rfl)
    (case g_is_number => first | k_is | rfl)
    (case l_is_number => first | k_is | rfl)
    (case p_is_number => first | k_is | rfl)
    (case k_is_number => first | k_is | rfl)
    (case g_is_face => first | k_is | rfl)
    (case l_is_face => first | k_is | rfl)
    (case p_is_face => first | k_is | rfl)
    (case k_is_face => first | k_is | rfl)
    (case g_is_die => first | k_is | rfl)
    (case l_is_die => first | k_is | rfl)
    (case p_is_die => first | k_is | rfl)
    (case k_is_die => first | k_is | rfl)
    (case g_need_die => first | k_is | rfl)
    (case l_need_die => first | k_is | rfl)
    (case p_need_die => first | k_is | rfl)
    (case k_need_die => first | k_is | rfl)
    (case g_need_dice => first | k_is | rfl)
    (case l_need_dice => first | k_is | rfl)
    (case p_need_dice => first | k_is | rfl)
    (case k_need_dice => first | k_is | rfl)
    (case g_counts => first | k_is | rfl)
    (case l_counts => first | k_is | rfl)
    (case p_counts => first | k_is | rfl)
    (case k_counts => first | k_is | rfl)
    (case g_ways_with => first | k_is | rfl)
    (case l_ways_with => first | k_is | rfl)
    (case p_ways_with => first | k_is | rfl)
    (case k_ways_with => first | k_is | rfl)
    (case g_pairs_of => first | k_is | rfl)
    (case l_pairs_of => first | k_is | rfl)
    (case p_pairs_of => first | k_is | rfl)
    (case k_pairs_of => first | k_is | rfl)
    (case g_alike => first | k_is | rfl)
    (case l_alike => first | k_is | rfl)
    (case p_alike => first | k_is | rfl)
    (case k_alike => first | k_is | rfl)
    (case g_need_many_faces => first | k_is | rfl)
    (case l_need_many_faces => first | k_is | rfl)
    (case p_need_many_faces => first | k_is | rfl)
    (case k_need_many_faces => first | k_is | rfl)
    (case g_need_pair_die => first | k_is | rfl)
    (case l_need_pair_die => first | k_is | rfl)
    (case p_need_pair_die => first | k_is | rfl)
    (case k_need_pair_die => first | k_is | rfl)
    (case g_need_counts => first | k_is | rfl)
    (case l_need_counts => first | k_is | rfl)
    (case p_need_counts => first | k_is | rfl)
    (case k_need_counts => first | k_is | rfl)
    (case g_is_row => first | k_is | rfl)
    (case l_is_row => first | k_is | rfl)
    (case p_is_row => first | k_is | rfl)
    (case k_is_row => first | k_is | rfl)
    (case g_with_a_face_more => first | k_is | rfl)
    (case l_with_a_face_more => first | k_is | rfl)
    (case p_with_a_face_more => first | k_is | rfl)
    (case k_with_a_face_more => first | k_is | rfl)
    (case g_without => first | k_is | rfl)
    (case l_without => first | k_is | rfl)
    (case p_without => first | k_is | rfl)
    (case k_without => first | k_is | rfl)
    (case g_law_draw => first | k_is | rfl)
    (case l_law_draw => first | k_is | rfl)
    (case p_law_draw => first | k_is | rfl)
    (case k_law_draw => first | k_is | rfl)
    (case g_law_die => first | k_is | rfl)
    (case l_law_die => first | k_is | rfl)
    (case p_law_die => first | k_is | rfl)
    (case k_law_die => first | k_is | rfl)
    (case g_law_throws => first | k_is | rfl)
    (case l_law_throws => first | k_is | rfl)
    (case p_law_throws => first | k_is | rfl)
    (case k_law_throws => first | k_is | rfl)
    (case g_law_counted => first | k_is | rfl)
    (case l_law_counted => first | k_is | rfl)
    (case p_law_counted => first | k_is | rfl)
    (case k_law_counted => first | k_is | rfl)
    (case g_law_good => first | k_is | rfl)
    (case l_law_good => first | k_is | rfl)
    (case p_law_good => first | k_is | rfl)
    (case k_law_good => first | k_is | rfl)
    (case g_law_changed => first | k_is | rfl)
    (case l_law_changed => first | k_is | rfl)
    (case p_law_changed => first | k_is | rfl)
    (case k_law_changed => first | k_is | rfl)
    (case g_law => first | k_is | rfl)
    (case l_law => first | k_is | rfl)
    (case p_law => first | k_is | rfl)
    (case k_law => first | k_is | rfl)
