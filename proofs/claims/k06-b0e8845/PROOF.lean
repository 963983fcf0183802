import PyProof.Rows.All
import Wide.All
import OpenK.AllK
import Wide.FinOn
import HandS.ForMost
import HandS.ForExc
import HandS.ExcIs
import HandS.IsInst
import HandS.Style
import HandS.Gcd
import HandS.Wide
import HandS.RaiseMore
import HandS.FStr
import HandS.SortInts
import HandS.Conv
import KE.Datum
import HandS.SortRule
import HandS.SortOrd
import HandS.DictTup
import HandS.ListItems
import KE.KItemsList
import KE.DatumOrd
import HandS.SetFor
import HandS.Zip
import PySem.Challenge.RW_dicepairs_k06_whole_ring_or_ranks
set_option Elab.async false
set_option linter.all false
set_option maxRecDepth 100000
set_option maxHeartbeats 4000000
/-! A caught error that is kept behind its clause: it is tracked from there on; isinstance asks it there. -/
namespace My
open PySem PySem.Spec PyProof.Rows L2

/-- an error object of the class cls, its own dict d, that lies at a -/
def ExV (cls : Value) (d : Option Addr) (a : Addr) : HO :=
  .ext fun h => ∃ (oe : Obj) (vs : Array Value), h.get? a = some oe ∧ Zc cls d oe ∧ oe.data = .fields vs

section
variable {X : Cx} {pins : List (Addr × Obj)} {σ : L2.St} {H : Hp} {s : Shared} {a : Addr} {oe : Obj} {vs : Array Value} {cls : Value} {d : Option Addr}

theorem track (I : Inv X pins σ H s) (he : s.heap.get? a = some oe) (hz : Zc cls d oe) (hd : oe.data = .fields vs) (na : H a = none)
    (n0 : X.s_0.heap.get? a = none) (nL : a ≠ X.env.locals) (np : ∀ p ∈ X.pn ++ pins, p.1 ≠ a) : Inv X pins σ (upd H a (ExV cls d a)) s := by
  have u1 : ∀ b o, X.s_0.heap.get? b = some o → b ≠ a := by
    intro b o e z
    rw [z, n0] at e
    cases e
  have u2 : ∀ b (o : HO), H b = some o → b ≠ a := fun b o e => ne_of_none e na
  have u3 : ∀ x c, X.env.cells.lookup x = some c → c ≠ a := by
    intro x c e z
    obtain ⟨v, o, ho, hv⟩ := I.cell x c e
    rw [z, he] at ho
    cases ho
    rw [hd] at hv
    cases hv
  refine { ok := I.ok, os := I.os, bare := I.bare, loc := I.loc, cell := I.cell, len := I.len, base := ?_, free := ?_, freeC := ?_, pin := ?_, hok := ?_ }
  · have B := I.base
    refine { keep := B.keep, slot := B.slot, there := B.there, free := ?_, tups := ?_, frzs := ?_, tbls := ?_ }
    · intro b o e n x
      rw [upd_ne (u1 b o e)]
      exact B.free b o e n x
    · intro b xs e
      have q := B.tups b xs e
      rw [upd_ne (u2 b _ q)]
      exact q
    · intro b o u e
      have q := B.frzs b o u e
      rw [upd_ne (u2 b _ q)]
      exact q
    · intro b ps e
      obtain ⟨more, q⟩ := B.tbls b ps e
      refine ⟨more, ?_⟩
      rw [upd_ne (u2 b _ q)]
      exact q
  · rw [upd_ne (Ne.symm nL)]
    exact I.free
  · intro x c e
    rw [upd_ne (u3 x c e)]
    exact I.freeC x c e
  · intro p hp
    obtain ⟨p1, p2, p3⟩ := I.pin p hp
    refine ⟨p1, ?_, p3⟩
    rw [upd_ne (np p hp)]
    exact p2
  · intro b o e
    by_cases hb : b = a
    · subst hb
      rw [upd_same] at e
      cases e
      exact ⟨⟨oe, vs, he, hz, hd⟩, ⟨oe, he⟩, fun h1 h2 ⟨o1, v1, w1, w2⟩ k => ⟨o1, v1, k o1 w1, w2⟩⟩
    · rw [upd_ne hb] at e
      refine (I.hok b o e).stay (fun c v _ q => q) (fun c q => ?_) (fun c xs q => ?_)
      · rw [upd_ne (u2 c _ q)]
        exact q
      · rw [upd_ne (u2 c _ q)]
        exact q
end

/-- the wish of a clause 'except x as n': behind the suite the error is tracked -/
def wKeep (K : PySem.W.Frag) (c : Value) (i : Nat) (ts : Addr → Value → Option Addr → TS) (Wout : WX) (D : Ends) : WX := fun cls d σ H =>
  ∃ b, PySem.W.exmOne K cls c = some b ∧
    (b = true → ∀ a, H a = none → ts a cls d { nx := fun σ' H' => D.nx (σ'.set i none) (upd H' a (ExV cls d a)), rt := fun _ _ => False } (σ.set i (some (.ref a))) H) ∧
    (b = false → Wout cls d σ H)

section
variable {X : Cx} {x n : Str} {c : Value} {i : Nat} {body suite : List Stmt} {b₀ : Stmt} {np pos pos' : Pos} {tb : WX → TS} {ts : Addr → Value → Option Addr → TS} {Wout : WX}
theorem ps_try_keep (hex : X.ex = []) (hs : X.stack = X.env :: X.outer) (hf : X.env.frame = some X.env.locals) (hN : X.N.Nodup) (hi : X.N[i]? = some n) (hln : X.env.kindOf n = some .local)
    (hc : Names X x c) (tk : Takes X Wout)
    (hb : ∀ (W : WX) (pn : List (Addr × Obj)) (xe : Value → Shared → Prop), Takes (X.tr pn xe) W → PassesOwn (model X.prog X.w) X.A X.env xe → PSs (X.tr pn xe) body (tb W))
    (hsu : ∀ (a : Addr) (oe : Obj) (cls : Value) (d : Option Addr) (pn : List (Addr × Obj)), Zc cls d oe → (∃ vs, oe.data = .fields vs) → PSs (X.suite a ((a, oe) :: pn)) (b₀ :: suite) (ts a cls d)) :
    PS X (.Try body [.ExceptHandler (some (.Name x np)) (some n) (b₀ :: suite) pos'] [] [] pos) (fun D σ H => tb (wKeep X.K c i ts Wout D) D σ H) := by
  constructor
  intro pins s σ H D I h
  have ok := I.ok
  have frA : X.A.frames = some (X.env :: X.outer) := ok.frames.trans (congrArg some hs)
  apply wpAny_Try_except
  let catch_ : Value → Shared → Prop := fun e s₁ => wpAny (model X.prog X.w) X.A (noteFrame e X.env)
    (fun _ s₂ => wpAny (model X.prog X.w) X.A (setFlight e none)
      (fun _ s₃ => wpAny (model X.prog X.w) X.A (handleBy e X.env [.ExceptHandler (some (.Name x np)) (some n) (b₀ :: suite) pos']) (SP X pins D) X.xe s₃) X.xe s₂) X.xe s₁
  have takes : Takes (X.tr (X.pn ++ pins) catch_) (wKeep X.K c i ts Wout D) := by
    intro u s' xx
    obtain ⟨a, B, sI, pins', σ', H', cls, d, ru, J', nb, up, sky, na, os, ag, b, test, yes, no⟩ := xx
    subst ru
    have J : Inv X pins σ' H' sI := J'.ofTry ok
    rw [show (X.tr (X.pn ++ pins) catch_).stack = X.env :: X.outer from hs] at sky
    show wpAny (model X.prog X.w) X.A (noteFrame (.ref a) X.env) _ _ _
    apply Sky.land Zc.steady frA hf sky
    intro h3 fl3 up3
    have J3 : Inv X pins σ' H' { s' with heap := h3 } := J.landed nb fl3.1 (up.trans up3) os ag
    obtain ⟨oe3, vs3, he3, hz3, hd3⟩ := fl3.there
    have nfr : a ∉ frs (X.env :: X.outer) := by
      intro hm
      obtain ⟨_, o', e', hnf⟩ := fl3.2.2.1.mem hm
      rw [he3] at e'
      cases e'
      exact hnf _ hd3
    have nL : a ≠ X.env.locals := by
      intro z
      exact nfr (List.mem_filterMap.mpr ⟨X.env, List.mem_cons_self, hf.trans (congrArg some z.symm)⟩)
    have nF : a ∉ X.fs := by
      intro hm
      obtain ⟨e, h1, h2⟩ := List.mem_filterMap.mp hm
      exact nfr (List.mem_filterMap.mpr ⟨e, List.mem_cons_of_mem _ h1, h2⟩)
    -- the error is new: the state ahead of it has no object there
    have nI : sI.heap.get? a = none := by
      cases q : sI.heap.get? a with
      | none => rfl
      | some o =>
        have z := nb a o q (by show a ∉ frs X.stack; rw [hs]; exact nfr)
        rw [fl3.2.1] at z
        cases z
    have n0 : X.s_0.heap.get? a = none := by
      cases q : X.s_0.heap.get? a with
      | none => rfl
      | some o =>
        obtain ⟨o', z⟩ := J.base.there a o q (by rw [hex]; exact fun z => nomatch z)
        rw [nI] at z
        cases z
    have npin : ∀ p ∈ X.pn ++ pins, p.1 ≠ a := by
      intro p hp z
      have q := (J.pin p hp).1
      rw [z, nI] at q
      cases q
    have S3 := J3.suite he3 hd3 na nL nF
    refine wpAny_handleBy_cons ?_ (by intro q; cases q)
    apply codeAny_handlers_test
    have LT : PySem.W.Looks (model X.prog X.w) h3 (typeOf (.ref a)) cls := by
      intro A Q E s k q
      exact wpAny_typeOf_ref (k _ _ he3) (by rw [hz3.1]; exact q)
    have LM := PySem.W.exm_one (M := model X.prog X.w) J3.kIn LT test
    have named : ∀ {Q E : Value → Shared → Prop}, Q c { s' with heap := h3 } →
        wpAny (model X.prog X.w) (X.A.mark (some (.ref a))) (eval (.Name x np) X.env) Q E { s' with heap := h3 } := by
      intro Q E q
      obtain ⟨hg, hdb, hm | ⟨hm, hv, hnn⟩⟩ := hc
      · exact ld_glob (X := X.suite a ((a, oe3) :: (X.pn ++ pins))) S3 hg hm q hdb
      · exact ld_blt (X := X.suite a ((a, oe3) :: (X.pn ++ pins))) S3 hg hm hv q hnn hdb
    refine named (LM.here ?_)
    cases b with
    | true =>
      apply codeAny_handlers_suite_as
      apply HandSPX.lands_againZ fl3
      intro h4 fl4 up4
      have J4 : Inv X pins σ' H' { s' with heap := h4 } := J.landed nb fl4.1 ((up.trans up3).trans up4) os ag
      obtain ⟨oe4, vs4, he4, hz4, hd4⟩ := fl4.there
      refine store_ok (X := X.suite a ((a, oe4) :: (X.pn ++ pins))) (v := .ref a) (J4.suite he4 hd4 na nL nF) hN hi (.inl hln) rfl (fun s5 S5 => ?_) (.inr hln)
      refine wpAny_mono ((hsu a oe4 cls d (X.pn ++ pins) hz4 ⟨_, hd4⟩).run [] s5 _ H' _ S5 (yes rfl a na)) ?_ (fun _ _ z => False.elim z)
      intro f s6 hsp
      cases f with
      | next =>
        obtain ⟨σ6, H6, S6, q6⟩ := hsp
        obtain ⟨p1, p2, _⟩ := S6.pin (a, oe4) (List.mem_append.mpr (.inl List.mem_cons_self))
        have T6 : Inv X pins σ6 (upd H6 a (ExV cls d a)) s6 := track (S6.unsuite ok) p1 hz4 hd4 p2 n0 nL npin
        exact gone_ok T6 hN hi hln (fun s7 J7 => ⟨_, _, J7, q6⟩)
      | brk =>
        obtain ⟨_, _, _, q6⟩ := hsp
        exact False.elim q6
      | cont =>
        obtain ⟨_, _, _, q6⟩ := hsp
        exact False.elim q6
      | ret u =>
        obtain ⟨_, _, _, _, _, q6⟩ := hsp
        exact False.elim q6
    | false =>
      show wpAny _ X.A (handleBy (.ref a) X.env []) _ _ _
      apply wpAny_handleBy_nil
      obtain ⟨k1, k2, k3, oe, vs, T, oT, ts', he, hz, hd, h1, hr⟩ := id fl3
      unfold PySem.passOn
      apply wpAny_bind
      apply wpAny_field he hd h1
      rw [if_neg (show ¬ ((Value.ref T == Value.none) = true) from by simp)]
      have last : wpAny (model X.prog X.w) X.A (setFlight (.ref a) X.env.frame)
          (fun _ s4 => wpAny (model X.prog X.w) X.A (throw (.ref a) : Sem Flow) (SP X pins D) X.xe s4) X.xe { s' with heap := h3 } := by
        rw [hf]
        apply HandSPX.setFlight_upZ fl3
        intro h4 hh4 up4
        apply wpAny_throw
        exact tk _ _ ⟨a, B, sI, pins, σ', H', cls, d, rfl, J, nb, (up.trans up3).trans up4, .inr (.inr (by rw [hs]; exact hh4)), na, os, ag, no rfl⟩
      first
        | exact wpAny_bind (wpAny_pure (wpAny_bind last))
        | exact wpAny_bind last
  refine wpAny_mono ((hb _ (X.pn ++ pins) catch_ takes PassesOwn.looking).run [] s σ H D (I.toTry _) h) ?_ (fun e s1 he => he)
  intro f s1 hsp
  cases f with
  | next =>
    obtain ⟨σ', H', J', q⟩ := hsp
    exact wpAny_execs_nil ⟨σ', H', J'.ofTry ok, q⟩
  | brk =>
    obtain ⟨σ', H', J', q⟩ := hsp
    exact ⟨σ', H', J'.ofTry ok, q⟩
  | cont =>
    obtain ⟨σ', H', J', q⟩ := hsp
    exact ⟨σ', H', J'.ofTry ok, q⟩
  | ret u =>
    obtain ⟨v, σ', H', J', r, q⟩ := hsp
    exact ⟨v, σ', H', J'.ofTry ok, r, q⟩

/-- isinstance(e, c) of an error that is tracked at a -/
def rIsX (K : PySem.W.Frag) : List V → Hp → VK → Prop := fun xs H Q => ∃ (a D : Addr) (c : V) (cv : Value) (b : Bool), xs = [.ref a, c] ∧ H a = some (ExV (.ref D) none a) ∧ ExcC K D ∧
  (∀ u, RelV c u → u = cv) ∧ PySem.W.kitOne K (.ref D) cv = some b ∧ Q (.bl b) H
theorem call_isX {X : Cx} : CallR X (.builtin "isinstance") (rIsX X.K) := by
  intro pins s σ H xs us Q I r h
  obtain ⟨a, D, c, cv, b, rfl, hH, C, hcv, e, q⟩ := h
  obtain ⟨u1, u2, rfl, r1, r2⟩ := vals2 r
  cases (show u1 = Value.ref a from r1)
  have ec := hcv _ r2
  subst ec
  obtain ⟨⟨oe, vs, hget, hz, hv⟩, _, _⟩ := (show ObjOk X.prog X.w H s.heap a (ExV (.ref D) none a) from I.hok a _ hH)
  have J : PySem.W.InstAt s.heap a oe D none := by
    obtain ⟨oc, od, oda, osl⟩ := oe
    obtain ⟨h1, h2⟩ := hz
    dsimp only at h1 h2 hv
    subst h1 h2 hv
    exact ⟨hget, rfl, rfl, trivial⟩
  exact PySem.W.kia_one (PySem.W.handS_kitx_exc C.hg C.hk C.hs C.hd C.ha C.hn C.ht C.hm) I.kIn J e (fun z => nomatch z) fun tk => ⟨.bl b, H, I.kept (t' := tk) fun _ _ z => z, rfl, q⟩
/-- isinstance of a value or of a tracked error -/
theorem call_isV {X : Cx} : CallR X (.builtin "isinstance") (fun xs H Q => rIsi X.K xs H Q ∨ rIsX X.K xs H Q) := by
  intro pins s σ H xs us Q I r h
  rcases h with h | h
  · exact call_isi pins s σ H xs us Q I r h
  · exact call_isX pins s σ H xs us Q I r h
/-- what an own error class says -/
structure ExFacts (K : PySem.W.Frag) (C : Addr) : Prop where
  x : PySem.W.excIn K C [.type "ValueError", .type "Exception", .type "BaseException", .type "object"] "ValueError.__new__" = true
  k : PySem.W.keepIn K (.ref C) = true
  b : PySem.W.subIn K (.ref C) (.type "BaseException") = some true
  t : PySem.W.typeIn K (.ref C) = some (.type "type")
  c : ExcC K C
end
end My

/-! Small words used by all laws: kinds of values, ways, heaps, comprehensions over lists. -/
namespace My
open PySem PySem.Spec PyProof.Rows L2

/-! ### ways -/
theorem iteD {p : Prop} [Decidable p] {A B : Prop} (h1 : p → A) (h2 : ¬ p → B) : if decide p = true then A else B := by
  by_cases h : p
  · rw [decide_eq_true h, if_pos rfl]
    exact h1 h
  · rw [decide_eq_false h, if_neg Bool.false_ne_true]
    exact h2 h
theorem iteND {p : Prop} [Decidable p] {A B : Prop} (h1 : ¬ p → A) (h2 : p → B) : if (!decide p) = true then A else B := by
  by_cases h : p
  · rw [decide_eq_true h, if_neg (by decide)]
    exact h2 h
  · rw [decide_eq_false h, if_pos (by decide)]
    exact h1 h
theorem iteB {b : Bool} {A B : Prop} (h1 : b = true → A) (h2 : b = false → B) : if b = true then A else B := by
  cases b with
  | true => exact h1 rfl
  | false => exact h2 rfl

/-- a written divisor -/
theorem md {j : Int} (h : decide (0 < j) = true) : 0 < j := of_decide_eq_true h
theorem dv {i j : Int} (h : (decide (0 < j) && decide (j < 1073741824)) = true) : CDiv i j := by
  rw [Bool.and_eq_true] at h
  exact ⟨of_decide_eq_true h.1, of_decide_eq_true h.2⟩

/-! ### heaps -/
theorem same_new {H : Hp} {p : Addr} {o : HO} (h : H p = none) : Same H (upd H p o) := fun b x e => by
  rw [upd_ne (ne_of_none e h)]
  exact e
theorem same_old {H H' : Hp} {p : Addr} {o : HO} (e : Same H H') (h : H p = none) : Same H (upd H' p o) := fun b x q => by
  rw [upd_ne (ne_of_none q h)]
  exact e b x q
theorem sz_ok {n : Nat} (h : n ≤ 1000000) : n ≤ sizeLine := Nat.le_trans h (by decide)
theorem sz_lt {n : Nat} (h : n < 1000000) : n < sizeLine := Nat.lt_of_lt_of_le h (by decide)
theorem sq_of {K : PySem.W.Frag} {H : Hp} {a : Addr} {xs : List V} (h : H a = some (.lst xs)) : SqL K H a xs := .inl (.inl h)
theorem st_of {K : PySem.W.Frag} {H : Hp} {a : Addr} {xs : List V} (h : H a = some (.tup xs)) : SqT K H a xs := .inl (.inl h)

/-! ### kinds of values -/
inductive Kd (H : Hp) : V → String → Prop
  | int (i : Int) : Kd H (.int i) "int"
  | bl (b : Bool) : Kd H (.bl b) "bool"
  | non : Kd H .non "NoneType"
  | str (x : Str) : Kd H (.str x) "str"
  | lst {a : Addr} {xs : List V} (h : H a = some (.lst xs)) : Kd H (.ref a) "list"
  | tup {a : Addr} {xs : List V} (h : H a = some (.tup xs)) : Kd H (.ref a) "tuple"
  | dct {a : Addr} {kvs : List (Key × V)} (h : H a = some (.dK kvs)) : Kd H (.ref a) "dict"
section
variable {H H' : Hp} {v : V} {n : String} {K : PySem.W.Frag}
theorem Kd.ty (k : Kd H v n) : TyX K H v (.type n) := by
  cases k with
  | int i => exact .base (.int i)
  | bl b => exact .base (.bl b)
  | non => exact .base .non
  | str x => exact .base (.str x)
  | lst h => exact .base (.lst h)
  | tup h => exact .base (.tup h)
  | dct h => exact .base (.dK h)
theorem Kd.mono (e : Same H H') (k : Kd H v n) : Kd H' v n := by
  cases k with
  | int i => exact .int i
  | bl b => exact .bl b
  | non => exact .non
  | str x => exact .str x
  | lst h => exact .lst (e _ _ h)
  | tup h => exact .tup (e _ _ h)
  | dct h => exact .dct (e _ _ h)
def isIntB : V → Bool
  | .int _ => true
  | .bl _ => true
  | _ => false
def isBlB : V → Bool
  | .bl _ => true
  | _ => false
def isNum : V → Bool
  | .int _ => true
  | _ => false
theorem Kd.kInt (k : Kd H v n) : kitB n "int" = some (isIntB v) := by
  cases k <;> (simp only [isIntB]; decide +kernel)
theorem Kd.kBool (k : Kd H v n) : kitB n "bool" = some (isBlB v) := by
  cases k <;> (simp only [isBlB]; decide +kernel)
def lstOf (H : Hp) : V → Option (List V)
  | .ref a => (match H a with
    | some (.lst xs) => some xs
    | _ => none)
  | _ => none
theorem lstOf_ref {a : Addr} {xs : List V} (h : H a = some (.lst xs)) : lstOf H (.ref a) = some xs := by
  show (match H a with
    | some (.lst xs) => some xs
    | _ => none) = some xs
  rw [h]
theorem lstOf_some {xs : List V} (h : lstOf H v = some xs) : ∃ a, v = .ref a ∧ H a = some (.lst xs) := by
  unfold lstOf at h
  split at h
  · rename_i a
    split at h
    · rename_i ys e
      cases h
      exact ⟨a, rfl, e⟩
    · cases h
  · cases h
theorem Kd.kListN (k : Kd H v n) (h : lstOf H v = none) : kitB n "list" = some false := by
  cases k with
  | lst e => rw [lstOf_ref e] at h; cases h
  | _ => decide +kernel
theorem Kd.kListS (k : Kd H v n) {xs : List V} (h : lstOf H v = some xs) : kitB n "list" = some true := by
  obtain ⟨a, rfl, e⟩ := lstOf_some h
  cases k with
  | lst e' => decide +kernel
  | tup e' => rw [e] at e'; cases e'
  | dct e' => rw [e] at e'; cases e'
end

/-! ### a comprehension over a list: what it makes, in one word -/
section
variable {K : PySem.W.Frag}
/-- the items that are kept, by f; the source stands still -/
theorem lc_map {a : Addr} {xs : List V} {g : TG} {tt : TT} {te : TE} {vs : List Nat} {σ : L2.St} {H1 : Hp} {D : Addr} {Qd : Hp → Prop} (keep : V → Bool) (f : V → V)
    (nD : H1 D = none) (hS : SqL K H1 a xs) (len : xs.length < 1000000)
    (hs : ∀ x H' (R : V → Hp → Prop) (N : Hp → Prop), x ∈ xs → Same H1 H' → (keep x = true → ∀ H4, Same H' H4 → R (f x) H4) → (keep x = false → ∀ H4, Same H' H4 → N H4) →
      g x (wipe σ vs) H' fun σ2 H2 => wipe σ2 vs = wipe σ vs ∧ tt σ2 H2 fun b H3 => if b = true then te σ2 H3 R else N H3)
    (hd : ∀ H', Same H1 H' → H' D = some (.lst ((xs.filter keep).map f)) → Qd H') :
    ∃ W : Nat → Nat → Hp → Prop, (∃ m, W 0 m (upd H1 D (.lst []))) ∧ ∀ i m H, W i m H →
      ((Itl K a).stop i H ∧ Qd H) ∨ ((Itl K a).go i H ∧ ∃ Nx : Hp → Prop, (∀ H', Nx H' → ∃ m', m' < m ∧ W (i + 1) m' H') ∧ ∀ x H', (Itl K a).yld i H x H' → g x (wipe σ vs) H' fun σ2 H2 => wipe σ2 vs = wipe σ vs ∧ tt σ2 H2 fun b H3 =>
        if b = true then te σ2 H3 fun y H4 => ∃ acc, H4 D = some (.lst acc) ∧ acc.length < sizeLine ∧ Nx (upd H4 D (.lst (acc ++ [y]))) else Nx H3) := by
  refine lc_list (K := K) (a := a) (xs := xs) (fun i H => Same H1 H ∧ H D = some (.lst (((xs.take i).filter keep).map f))) ⟨same_new nD, upd_same⟩ (fun i H _ p => p.1.seq hS) ?_ ?_
  · intro i x H hi p
    obtain ⟨p1, p2⟩ := p
    have tk : xs.take (i + 1) = xs.take i ++ [x] := by
      rw [List.take_add_one, hi]
      rfl
    refine hs x H _ _ (List.mem_of_getElem? hi) p1 (fun kx H4 e4 => ?_) (fun kx H4 e4 => ?_)
    · refine ⟨_, e4 _ _ p2, ?_, fun b o e => ?_, ?_⟩
      · refine sz_lt (Nat.lt_of_le_of_lt ?_ len)
        rw [List.length_map]
        refine Nat.le_trans (List.length_filter_le _ _) ?_
        rw [List.length_take]
        exact Nat.min_le_right _ _
      · rw [upd_ne (ne_of_none e nD)]
        exact e4 _ _ (p1 _ _ e)
      · rw [upd_same, tk, List.filter_append, List.map_append]
        simp [List.filter_cons, kx]
    · refine ⟨p1.trans e4, ?_⟩
      rw [e4 _ _ p2, tk, List.filter_append, List.map_append]
      simp [List.filter_cons, kx]
  · intro H p
    obtain ⟨p1, p2⟩ := p
    rw [List.take_length] at p2
    exact hd H p1 p2
/-- all items -/
theorem lc_all {a : Addr} {xs : List V} {g : TG} {tt : TT} {te : TE} {vs : List Nat} {σ : L2.St} {H1 : Hp} {D : Addr} {Qd : Hp → Prop} (f : V → V)
    (nD : H1 D = none) (hS : SqL K H1 a xs) (len : xs.length < 1000000)
    (hs : ∀ x H' (R : V → Hp → Prop), x ∈ xs → Same H1 H' → (∀ H4, Same H' H4 → R (f x) H4) →
      ∀ N : Hp → Prop, g x (wipe σ vs) H' fun σ2 H2 => wipe σ2 vs = wipe σ vs ∧ tt σ2 H2 fun b H3 => if b = true then te σ2 H3 R else N H3)
    (hd : ∀ H', Same H1 H' → H' D = some (.lst (xs.map f)) → Qd H') :
    ∃ W : Nat → Nat → Hp → Prop, (∃ m, W 0 m (upd H1 D (.lst []))) ∧ ∀ i m H, W i m H →
      ((Itl K a).stop i H ∧ Qd H) ∨ ((Itl K a).go i H ∧ ∃ Nx : Hp → Prop, (∀ H', Nx H' → ∃ m', m' < m ∧ W (i + 1) m' H') ∧ ∀ x H', (Itl K a).yld i H x H' → g x (wipe σ vs) H' fun σ2 H2 => wipe σ2 vs = wipe σ vs ∧ tt σ2 H2 fun b H3 =>
        if b = true then te σ2 H3 fun y H4 => ∃ acc, H4 D = some (.lst acc) ∧ acc.length < sizeLine ∧ Nx (upd H4 D (.lst (acc ++ [y]))) else Nx H3) := by
  refine lc_map (fun _ => true) f nD hS len (fun x H' R N hx e r _ => hs x H' R hx e (r rfl) N) fun H' e q => hd H' e ?_
  rw [q, List.filter_eq_self.mpr (fun _ _ => rfl)]
/-- the same over a tuple -/
theorem lt_all {a : Addr} {xs : List V} {g : TG} {tt : TT} {te : TE} {vs : List Nat} {σ : L2.St} {H1 : Hp} {D : Addr} {Qd : Hp → Prop} (f : V → V)
    (nD : H1 D = none) (hS : H1 a = some (.tup xs)) (len : xs.length < 1000000)
    (hs : ∀ x H' (R : V → Hp → Prop), x ∈ xs → Same H1 H' → (∀ H4, Same H' H4 → R (f x) H4) →
      ∀ N : Hp → Prop, g x (wipe σ vs) H' fun σ2 H2 => wipe σ2 vs = wipe σ vs ∧ tt σ2 H2 fun b H3 => if b = true then te σ2 H3 R else N H3)
    (hd : ∀ H', Same H1 H' → H' D = some (.lst (xs.map f)) → Qd H') :
    ∃ W : Nat → Nat → Hp → Prop, (∃ m, W 0 m (upd H1 D (.lst []))) ∧ ∀ i m H, W i m H →
      ((Itt K a).stop i H ∧ Qd H) ∨ ((Itt K a).go i H ∧ ∃ Nx : Hp → Prop, (∀ H', Nx H' → ∃ m', m' < m ∧ W (i + 1) m' H') ∧ ∀ x H', (Itt K a).yld i H x H' → g x (wipe σ vs) H' fun σ2 H2 => wipe σ2 vs = wipe σ vs ∧ tt σ2 H2 fun b H3 =>
        if b = true then te σ2 H3 fun y H4 => ∃ acc, H4 D = some (.lst acc) ∧ acc.length < sizeLine ∧ Nx (upd H4 D (.lst (acc ++ [y]))) else Nx H3) := by
  refine lc_tup (K := K) (a := a) (xs := xs) (fun i H => Same H1 H ∧ H D = some (.lst ((xs.take i).map f))) ⟨same_new nD, upd_same⟩ (fun i H _ p => st_of (p.1 _ _ hS)) ?_ ?_
  · intro i x H hi p
    obtain ⟨p1, p2⟩ := p
    have tk : xs.take (i + 1) = xs.take i ++ [x] := by
      rw [List.take_add_one, hi]
      rfl
    refine hs x H _ (List.mem_of_getElem? hi) p1 (fun H4 e4 => ?_) _
    refine ⟨_, e4 _ _ p2, ?_, fun b o e => ?_, ?_⟩
    · refine sz_lt (Nat.lt_of_le_of_lt ?_ len)
      rw [List.length_map, List.length_take]
      exact Nat.min_le_right _ _
    · rw [upd_ne (ne_of_none e nD)]
      exact e4 _ _ (p1 _ _ e)
    · rw [upd_same, tk, List.map_append]
      rfl
  · intro H p
    obtain ⟨p1, p2⟩ := p
    rw [List.take_length] at p2
    exact hd H p1 p2
end

/-! ### rules with the written part told (for a comprehension's block) -/
def rListOf (K : PySem.W.Frag) : List V → Hp → VK → Prop := fun xs H Q => ∃ p ys, xs = [.ref p] ∧ (SqL K H p ys ∨ SqT K H p ys) ∧ ∀ l, H l = none → Q (.ref l) (upd H l (.lst ys))
theorem call_listOf {X : Cx} : CallR X (.type "list") (rListOf X.K) := call_list_of
def rLenSeq (K : PySem.W.Frag) : List V → Hp → VK → Prop := fun xs H Q => ∃ p ys, xs = [.ref p] ∧ (SqL K H p ys ∨ SqT K H p ys) ∧ Q (.int ys.length) H
theorem call_lenSeq {X : Cx} : CallR X (.builtin "len") (rLenSeq X.K) := call_len_seq
/-! ### data: what stands at v is x -/
section
open PySem.W (Datum Tup)
variable {α β : Type} [DecidableEq α] [Datum α] [DecidableEq β] [Datum β] {K : PySem.W.Frag} {H H' : Hp}
def Is (K : PySem.W.Frag) (H : Hp) (v : V) (x : α) : Prop := Dp K H v (Datum.toD x)
theorem is_int (i : Int) : Is K H (.int i) i := .int i
theorem is_bl (b : Bool) : Is K H (.bl b) b := .bl b
theorem is_str (s : Str) : Is K H (.str s) s := .str s
/-- item by item -/
inductive IsAll (K : PySem.W.Frag) (H : Hp) : List V → List α → Prop
  | nil : IsAll K H [] []
  | cons {v : V} {vs : List V} {x : α} {xs : List α} (h : Is K H v x) (t : IsAll K H vs xs) : IsAll K H (v :: vs) (x :: xs)
theorem IsAll.dp {vs : List V} {xs : List α} (h : IsAll K H vs xs) : DpAll K H vs (xs.map Datum.toD) := by
  induction h with
  | nil => exact .nil
  | cons h t ih => exact .cons h ih
theorem IsAll.map {γ : Type} (f : γ → V) (g : γ → α) : ∀ (l : List γ), (∀ y ∈ l, Is K H (f y) (g y)) → IsAll K H (l.map f) (l.map g)
  | [], _ => .nil
  | y :: r, h => .cons (h y List.mem_cons_self) (IsAll.map f g r fun z hz => h z (List.mem_cons_of_mem _ hz))
theorem IsAll.ints (ns : List Int) : IsAll K H (ns.map V.int) ns := by
  have q := IsAll.map (K := K) (H := H) V.int id ns (fun y _ => is_int y)
  rw [List.map_id] at q
  exact q
theorem IsAll.strs : ∀ ns : List Str, IsAll K H (ns.map V.str) ns
  | [] => .nil
  | s :: r => .cons (is_str s) (IsAll.strs r)
theorem is_list {a : Addr} {vs : List V} {xs : List α} (h : SqL K H a vs) (t : IsAll K H vs xs) : Is K H (.ref a) xs := by
  show Dp K H (.ref a) (.list (xs.map Datum.toD))
  exact .lst h t.dp
theorem is_tup {a : Addr} {vs : List V} {xs : List α} (h : SqT K H a vs) (t : IsAll K H vs xs) : Is K H (.ref a) (Tup.mk xs) := by
  show Dp K H (.ref a) (.tuple (xs.map Datum.toD))
  exact .tup h t.dp
theorem is_pair {a : Addr} {v u : V} {x : α} {y : β} (h : SqT K H a [v, u]) (hx : Is K H v x) (hy : Is K H u y) : Is K H (.ref a) (x, y) := by
  show Dp K H (.ref a) (.tuple [Datum.toD x, Datum.toD y])
  exact .tup h (.cons hx (.cons hy .nil))
theorem is_ints {a : Addr} {ns : List Int} (h : SqL K H a (ns.map V.int)) : Is K H (.ref a) ns := is_list h (.ints ns)
/-- == and != of data -/
def rEqP (K : PySem.W.Frag) : R2 := fun x y H Q => ∃ d e, Dp K H x d ∧ Dp K H y e ∧ d.plain = true ∧ e.plain = true ∧ d.depth ≤ 64 ∧ Q (.bl (PyData.eqv d e)) H
def rNeP (K : PySem.W.Frag) : R2 := fun x y H Q => ∃ d e, Dp K H x d ∧ Dp K H y e ∧ d.plain = true ∧ e.plain = true ∧ d.depth ≤ 64 ∧ Q (.bl (!PyData.eqv d e)) H
theorem op_eqP {X : Cx} (hu : X.A.units + 64 < cLine) : OpR X (compareOp .Eq) (rEqP X.K) := by
  intro pins s σ H x y v u Q I rx ry h
  obtain ⟨d, e, hd, he, pd, pe, hdep, q⟩ := h
  obtain ⟨as, r1⟩ := Dp.reads I d x v hd rx
  obtain ⟨bs, r2⟩ := Dp.reads I e y u he ry
  refine PySem.SeqAt.eq_plain r1 r2 pd pe ?_ ⟨.bl _, H, I, rfl, q⟩
  have := Nat.min_le_left d.depth e.depth
  omega
theorem op_neP {X : Cx} (hu : X.A.units + 64 < cLine) : OpR X (compareOp .NotEq) (rNeP X.K) := by
  intro pins s σ H x y v u Q I rx ry h
  obtain ⟨d, e, hd, he, pd, pe, hdep, q⟩ := h
  obtain ⟨as, r1⟩ := Dp.reads I d x v hd rx
  obtain ⟨bs, r2⟩ := Dp.reads I e y u he ry
  refine PySem.SeqAt.ne_plain r1 r2 pd pe ?_ ⟨.bl _, H, I, rfl, q⟩
  have := Nat.min_le_left d.depth e.depth
  omega
/-- what is wanted of them -/
theorem eq_is {v u : V} {x y : α} {Q : VK} (hx : Is K H v x) (hy : Is K H u y) (q : Q (.bl (decide (x = y))) H) (h : Datum.depth α ≤ 64 := by decide) : rEqP K v u H Q :=
  ⟨_, _, hx, hy, Datum.plain x, Datum.plain y, Nat.le_trans (Datum.depth_le x) h, by rw [Datum.eqv]; exact q⟩
theorem ne_is {v u : V} {x y : α} {Q : VK} (hx : Is K H v x) (hy : Is K H u y) (q : Q (.bl (!decide (x = y))) H) (h : Datum.depth α ≤ 64 := by decide) : rNeP K v u H Q :=
  ⟨_, _, hx, hy, Datum.plain x, Datum.plain y, Nat.le_trans (Datum.depth_le x) h, by rw [Datum.eqv]; exact q⟩
end
end My

/-! sorted(d.items()) of a dict of whole numbers, of any size: its pairs, sorted, each a new tuple. -/
namespace My
open PySem PySem.Spec PyProof.Rows L2

/-- an entry of whole numbers -/
def entI (p : Int × Int) : Key × V := (Sum.inl p.1, .int p.2)
/-- a pair read off an object -/
def pairAt (h : Heap) : Value → Int × Int
  | .ref a => (match h.get? a with
    | some ob => (match ob.data with
      | .seq its _ => (match its.toList with
        | [.int x _, .int y _] => (x, y)
        | _ => (0, 0))
      | _ => (0, 0))
    | none => (0, 0))
  | _ => (0, 0)
def refAt : Value → Addr
  | .ref a => a
  | _ => 0
theorem pairAt_of {h : Heap} {a : Addr} {x y : Int} {t u : Tok} (e : h.get? a = some { cls := .type "tuple", data := .seq #[.int x t, .int y u] }) : pairAt h (.ref a) = (x, y) := by
  show (match h.get? a with
    | some ob => (match ob.data with
      | .seq its _ => (match its.toList with
        | [.int x _, .int y _] => (x, y)
        | _ => (0, 0))
      | _ => (0, 0))
    | none => (0, 0)) = (x, y)
  rw [e]
def rSortedItems : V → Hp → VK → Prop := fun x H Q => ∃ (d : Addr) (kvs : List (Int × Int)), x = .ref d ∧ H d = some (.dK (kvs.map entI)) ∧
  ∀ (H' : Hp) (p : Addr) (ps : List (Addr × Int × Int)), Same H H' → H p = none → (∀ z ∈ ps, H z.1 = none) → p ∉ ps.map (·.1) → (ps.map (·.1)).Nodup →
    (ps.map (·.2)).Perm kvs → (ps.map (·.2)).Pairwise (fun a b => SrtO.lexB b a = false) → H' p = some (.lst (ps.map fun z => V.ref z.1)) →
    (∀ z ∈ ps, H' z.1 = some (.tup [.int z.2.1, .int z.2.2])) → Q (.ref p) H'
def tSortedItems (te : TE) : TE := fun σ H Q => te σ H fun x H1 => rSortedItems x H1 Q
section
variable {X : Cx} {e : Expr} {te : TE} {p apos cpos pos : Pos}
theorem ints_entries : ∀ {kvs : List (Int × Int)} {vs : List (Key × Value)}, KV (kvs.map entI) vs → ∀ {j : Nat} {q : Key × Value}, vs[j]? = some q → ∃ (z : Int × Int) (t : Tok), kvs[j]? = some z ∧ q = (Sum.inl z.1, .int z.2 t)
  | [], _, .nil, j, q, h => by simp at h
  | z :: r, _, .cons hz t, 0, q, h => by
    have e := Option.some.inj h
    subst e
    obtain ⟨e1, tk, e2⟩ := hz
    exact ⟨z, tk, rfl, Prod.ext e1.symm e2⟩
  | z :: r, _, .cons hz t, j + 1, q, h => ints_entries t (j := j) h
theorem pe_sortedItems (hc : X.calm = true) (he : PE X e te) (hg : Gl X "sorted") (hm : X.mg "sorted" = none) (hv : bootBuiltins "sorted" = some (.builtin "sorted"))
    (hbase : attributeBase e "items" X.env (eval e X.env) = eval e X.env := by rfl) (hline : (apos.endLine == cpos.line) = true := by rfl)
    (hs : starEach [.Call (.Attribute e "items" apos) [] [] cpos] X.env = (false, eval (.Call (.Attribute e "items" apos) [] [] cpos) X.env) :: starEach [] X.env := by rfl) :
    PE X (.Call (.Name "sorted" p) [.Call (.Attribute e "items" apos) [] [] cpos] [] pos) (tSortedItems te) := by
  refine ⟨fun pins s σ H Q I hq => ?_⟩
  apply wpAny_Call_Name_kw
  apply ld_blt I hg hm hv
  refine PyProof.Rows.callWith_builtin1 ?_ hs rfl
  rw [hs]
  show wpAny _ _ (spliced ((false, eval (.Call (.Attribute e "items" apos) [] [] cpos) X.env) :: backTo pos (starEach [] X.env))) _ _ s
  apply Calls.spliced_cons
  refine wpAny_Call_method (T := "dict") (id := "dict.items") hbase rfl hline F.plainAttrs_dict F.slot_dict_items F.type_dict_items (thn (he.run pins s σ H _ I hq) fun u s1 hu => ?_)
  obtain ⟨x, H1, I1, rx, d, kvs, ex, hd, q⟩ := hu
  subst ex
  obtain rfl : u = Value.ref d := rx
  obtain ⟨hz, hs0, vs, kv, hdo⟩ := (show ObjOk X.prog X.w H1 s1.heap d (.dK (kvs.map entI)) from I1.hok d _ hd)
  obtain ⟨ep, hat⟩ := hdo.dictAt
  have lk : (kvs.map entI).length = vs.length := Paired.length kv
  have lk2 : kvs.length = vs.length := by rw [← lk, List.length_map]
  have I2 : Inv X pins σ H1 { s1 with heap := s1.heap.push { cls := .type "dict_items", data := .fields #[.ref d] } } := I1.kept (t' := s1.toks) fun b ob z => Heap.get?_push_of_some _ z
  refine ⟨hdo.typeIs, hdo.mapOf.noDict, ?_⟩
  show wpAny _ _ (callWith cpos (.builtin "dict.items") [.ref d] [] []) _ X.xe s1
  refine method_meetsIn F.slot_dict_items F.entry_dict_items rfl (PySem.evalArgs_none ⟨rfl, hdo.typeIs, F.args_dict_items_1 _, _, meets_dict_items (mixKind X.prog X.w) d hs0, ⟨vs, hdo⟩, ?_⟩)
  apply Calls.spliced_nil
  -- sorted of the view
  generalize hs2 : ({ s1 with heap := s1.heap.push { cls := .type "dict_items", data := .fields #[.ref d] } } : Shared) = s2 at I2
  have hh : X.A.handled = none := I1.ok.hd hc
  have view : s2.heap.IsItemsView s1.heap.objs.size d := by rw [← hs2]; exact ⟨_, Heap.get?_push_size _ rfl, rfl, rfl⟩
  have hat2 : s2.heap.DictAt (mixKind X.prog X.w) d vs ep := by rw [← hs2]; exact hat.push _
  show wpAny _ _ (call (.builtin "sorted") [.ref s1.heap.objs.size]) _ _ _
  refine Calls.call_function_entry kind_sorted plain_sorted entry_sorted (args_sorted1 _) ?_
  unfold Builtin.«sorted»
  refine wpAny_bind (m := checkCount "sorted" 1 1 _) (wpAny_pure ?_)
  refine wpAny_bind (PySem.W.kdx_collect (knd := mixKind X.prog X.w) (kvs := vs) (ep := ep) (A := X.A.in1) hh view hat2 (by omega) fun h' tk as hk hl hG => ?_)
  have llen : (as.map Value.ref).length = vs.length := by rw [List.length_map, hl]
  refine wpAny_bind (wpAny_newList ?_ (by omega))
  have nd : as.Nodup := List.Pairwise.imp (fun {a b} (h : a < b) => Nat.ne_of_lt h) hG.rise
  have hob : (h'.push { cls := .type "list", data := .seq (as.map Value.ref).toArray }).get? h'.objs.size = some (seqObj "list" (as.map Value.ref).toArray 0) := Heap.get?_push_size _ rfl
  have ka : ∀ b o, h'.get? b = some o → (h'.push { cls := .type "list", data := .seq (as.map Value.ref).toArray }).get? b = some o := fun b o z => Heap.get?_push_of_some _ z
  have ne0 : ∀ b o, h'.get? b = some o → b ≠ h'.objs.size := fun b o z => Nat.ne_of_lt (Heap.lt_size z)
  show wpAny _ _ _ _ _ { s2 with heap := h'.push { cls := .type "list", data := .seq (as.map Value.ref).toArray }, toks := tk }
  generalize h'.push { cls := .type "list", data := .seq (as.map Value.ref).toArray } = h2 at hob ka ⊢
  -- the pairs that were made
  have prs : ∀ (j : Nat) (b : Addr), as[j]? = some b → ∃ (z : Int × Int) (t u : Tok), kvs[j]? = some z ∧ h2.get? b = some { cls := .type "tuple", data := .seq #[.int z.1 t, .int z.2 u] } := by
    intro j b hj
    obtain ⟨key, k, y, e1, e2, e3⟩ := hG.pairs j b hj
    obtain ⟨z, t, e4, e5⟩ := ints_entries kv e1
    cases e5
    obtain ⟨tk1, ek⟩ := Value.isInt_shape (k := z.1) (v := key) e2
    subst ek
    exact ⟨z, tk1, t, e4, ka _ _ e3⟩
  have isP : ∀ v ∈ as.map Value.ref, Srt.IsPair h2 v (pairAt h2 v).1 (pairAt h2 v).2 := by
    intro v hv'
    obtain ⟨b, hb, rfl⟩ := List.mem_map.mp hv'
    obtain ⟨j, hj⟩ := List.mem_iff_getElem?.mp hb
    obtain ⟨z, t, u, _, hz2⟩ := prs j b hj
    rw [pairAt_of hz2]
    exact ⟨b, _, t, u, 0, rfl, hz2, rfl, rfl⟩
  have hvals : (as.map Value.ref).map (pairAt h2) = kvs := by
    apply List.ext_getElem?
    intro j
    rw [List.getElem?_map, List.getElem?_map]
    cases hj : as[j]? with
    | none =>
      have h1 := List.getElem?_eq_none_iff.mp hj
      rw [List.getElem?_eq_none (by omega)]
      rfl
    | some b =>
      obtain ⟨z, t, u, e4, hz2⟩ := prs j b hj
      rw [e4]
      show some (pairAt h2 (.ref b)) = some z
      rw [pairAt_of hz2]
  refine wpAny_bind (wpAny_holding (wpAny_call_entry slot_list_sort ⟨_, hob, rfl⟩ entry_list_sort
    (SrtO.list_sort_ord (SrtO.swo_lex (pairAt h2)) hob (by omega) (fun h2' => SrtO.pairs_sortableO (by omega) isP fun o z => ?_) fun out hso hst => ⟨_, rfl, ?_⟩) (args_list_sort _)))
  · have z2 : some o = some (seqObj "list" (as.map Value.ref).toArray 0) := z.symm.trans hob
    cases z2
    intro c
    exact absurd (Value.type.inj c) (by decide)
  refine wpAny_pure ⟨_, rfl, ?_⟩
  show EP X pins σ Q (.ref h'.objs.size) { s2 with heap := sortedHeap h2 h'.objs.size (as.map Value.ref) out.toArray, toks := tk }
  have kF : ∀ b o, b ≠ h'.objs.size → h2.get? b = some o → (sortedHeap h2 h'.objs.size (as.map Value.ref) out.toArray).get? b = some o := fun b o hb z => (PyProof.Rows.sortedHeap_old hb (Heap.lt_size z)).trans z
  have kS : ∀ b o, s2.heap.get? b = some o → (sortedHeap h2 h'.objs.size (as.map Value.ref) out.toArray).get? b = some o := fun b o z => kF b o (ne0 _ _ (hk b o z)) (ka _ _ (hk b o z))
  obtain ⟨eF, heF⟩ := PyProof.Rows.sortedHeap_at (vs := as.map Value.ref) (out := out.toArray) hob
  have refs : ∀ v ∈ out, ∃ b, v = .ref b ∧ b ∈ as := by
    intro v hv'
    obtain ⟨b, hb, rfl⟩ := List.mem_map.mp (hst.perm.mem_iff.mp hv')
    exact ⟨b, rfl, hb⟩
  have big : s2.heap.objs.size ≤ h'.objs.size := by
    rcases Nat.lt_or_ge h'.objs.size s2.heap.objs.size with hlt | hge
    · obtain ⟨o, z⟩ : ∃ o, s2.heap.get? s1.heap.objs.size = some o := let ⟨o, z, _⟩ := view; ⟨o, z⟩
      have z2 : s1.heap.objs.size < h'.objs.size := Heap.lt_size (hk _ _ z)
      have z3 : s2.heap.objs.size = s1.heap.objs.size + 1 := by rw [← hs2]; exact Heap.size_push _ _
      omega
    · exact hge
  have hn0 : H1 h'.objs.size = none := I2.hok.fresh big
  have I3 : Inv X pins σ H1 { s2 with heap := sortedHeap h2 h'.objs.size (as.map Value.ref) out.toArray, toks := tk } := I2.kept (t' := tk) kS
  have backs : out.map (fun v => Value.ref (refAt v)) = out := by
    have : ∀ l : List Value, (∀ v ∈ l, ∃ b, v = .ref b ∧ b ∈ as) → l.map (fun v => Value.ref (refAt v)) = l := by
      intro l
      induction l with
      | nil => intro _; rfl
      | cons v r ih =>
        intro hl
        obtain ⟨b, rfl, _⟩ := hl v List.mem_cons_self
        rw [List.map_cons, ih fun z hz => hl z (List.mem_cons_of_mem _ hz)]
        rfl
    exact this out refs
  have rv : Vals (out.map fun v => V.ref (refAt v)) out.toArray.toList := by
    have : Vals (out.map fun v => V.ref (refAt v)) (out.map fun v => Value.ref (refAt v)) := by
      clear backs heF kS kF hso hst refs I3
      induction out with
      | nil => exact .nil
      | cons v r ih => exact .cons rfl ih
    rw [backs] at this
    exact this
  have lenO : out.length = vs.length := by rw [hst.perm.length_eq, llen]
  have I4 : Inv X pins σ (upd H1 h'.objs.size (.lst (out.map fun v => V.ref (refAt v)))) { s2 with heap := sortedHeap h2 h'.objs.size (as.map Value.ref) out.toArray, toks := tk } :=
    I3.take (h' := sortedHeap h2 h'.objs.size (as.map Value.ref) out.toArray) (t' := tk) (fun b ob _ z => z) (I2.fpOk big hn0) ⟨by rw [List.length_map]; omega, out.toArray.toList, eF, rv, heF⟩
  have abv : ∀ b ∈ as, s2.heap.objs.size ≤ b := fun b hb => Nat.le_of_lt (hG.above b hb)
  have asne : ∀ b ∈ as, b ≠ h'.objs.size := fun b hb => Nat.ne_of_lt (hG.there hb)
  obtain ⟨H5, I5, g5, t5⟩ := L2.DX.takeT (P := fun b ws => ∃ z : Int × Int, pairAt h2 (.ref b) = z ∧ ws = [.int z.1, .int z.2]) I2 as _ I4 nd fun b hb => by
    obtain ⟨j, hj⟩ := List.mem_iff_getElem?.mp hb
    obtain ⟨z, t, u, _, hz2⟩ := prs j b hj
    refine ⟨abv b hb, ?_, [.int z.1, .int z.2], ⟨z, pairAt_of hz2, rfl⟩, fun H2 => ⟨by show 2 ≤ sizeLine; decide, [.int z.1 t, .int z.2 u], .cons ⟨_, rfl⟩ (.cons ⟨_, rfl⟩ .nil), ⟨_, kF _ _ (asne b hb) hz2, rfl, 0, rfl⟩⟩⟩
    rw [upd_ne (asne b hb)]
    exact I2.hok.fresh (abv b hb)
  have pm : ∀ f : Addr × Int × Int → Prop, (∀ v ∈ out, f (refAt v, pairAt h2 v)) → ∀ z ∈ out.map (fun v => (refAt v, pairAt h2 v)), f z := by
    intro f hf z hz2
    obtain ⟨v, hv', rfl⟩ := List.mem_map.mp hz2
    exact hf v hv'
  have m1 : (out.map (fun v => (refAt v, pairAt h2 v))).map (·.1) = out.map refAt := by rw [List.map_map]; rfl
  have m2 : (out.map (fun v => (refAt v, pairAt h2 v))).map (·.2) = out.map (pairAt h2) := by rw [List.map_map]; rfl
  have pA : (out.map refAt).Perm as := by
    have z := hst.perm.map refAt
    rw [List.map_map] at z
    have z2 : (as.map (refAt ∘ Value.ref)) = as := by
      have : (refAt ∘ Value.ref) = id := rfl
      rw [this, List.map_id]
    rw [z2] at z
    exact z
  refine ⟨.ref h'.objs.size, H5, I5, rfl, q H5 _ (out.map fun v => (refAt v, pairAt h2 v)) (fun b o z => g5 b o ?_) hn0 (pm _ fun v hv' => ?_) ?_ ?_ ?_ ?_ ?_ (pm _ fun v hv' => ?_)⟩
  · rw [upd_ne (ne_of_none z hn0)]
    exact z
  · obtain ⟨b, rfl, hb⟩ := refs v hv'
    exact I2.hok.fresh (abv b hb)
  · rw [m1]
    intro z
    exact asne _ (pA.mem_iff.mp z) rfl
  · rw [m1]
    exact pA.nodup_iff.mpr nd
  · rw [m2, ← hvals]
    exact hst.perm.map _
  · rw [m2]
    exact List.pairwise_map.mpr hso
  · rw [List.map_map]
    exact g5 _ _ upd_same
  · obtain ⟨b, rfl, hb⟩ := refs v hv'
    obtain ⟨ws, ⟨z, e1, e2⟩, e3⟩ := t5 b hb
    subst e2
    show H5 b = _
    rw [e3]
    show _ = some (HO.tup [.int (pairAt h2 (.ref b)).1, .int (pairAt h2 (.ref b)).2])
    rw [e1]
end
end My

/-! Counts of sums, in plain Lean: a dict of whole numbers as a list of pairs, throws as functions. -/
namespace My
open PySem PySem.Spec PyProof.Rows L2

/-! ### a dict of whole numbers -/
def lookI : List (Int × Int) → Int → Int
  | [], _ => 0
  | p :: r, k => if p.1 = k then p.2 else lookI r k
def putI (m : List (Int × Int)) (k v : Int) : List (Int × Int) :=
  if (m.any fun p => decide (p.1 = k)) = true then m.map (fun p => if p.1 = k then (p.1, v) else p) else m ++ [(k, v)]
def addI (m : List (Int × Int)) (k v : Int) : List (Int × Int) := putI m k (lookI m k + v)
theorem valV_entI (k : Int) : ∀ m : List (Int × Int), (valV (m.map entI) (Sum.inl k)).getD (.int 0) = .int (lookI m k)
  | [] => rfl
  | p :: r => by
    rw [List.map_cons, lookI]
    by_cases e : p.1 = k
    · rw [if_pos e, valV_pos (p := entI p) (show Sum.inl p.1 = Sum.inl k by rw [e])]
      rfl
    · rw [if_neg e, valV_neg (p := entI p) (show ¬ Sum.inl p.1 = Sum.inl k from fun z => e (Sum.inl.inj z))]
      exact valV_entI k r
theorem valV_entI_some {k : Int} : ∀ {m : List (Int × Int)}, k ∈ m.map (·.1) → valV (m.map entI) (Sum.inl k) = some (.int (lookI m k))
  | [], h => by simp at h
  | p :: r, h => by
    rw [List.map_cons, lookI]
    by_cases e : p.1 = k
    · rw [if_pos e, valV_pos (p := entI p) (show Sum.inl p.1 = Sum.inl k by rw [e])]
      rfl
    · rw [if_neg e, valV_neg (p := entI p) (show ¬ Sum.inl p.1 = Sum.inl k from fun z => e (Sum.inl.inj z))]
      rcases List.mem_cons.mp h with h | h
      · exact absurd h.symm e
      · exact valV_entI_some h
theorem any_entI (k : Int) (m : List (Int × Int)) : ((m.map entI).any fun kv => decide (kv.1 = (Sum.inl k : Key))) = m.any fun p => decide (p.1 = k) := by
  rw [List.any_map]
  congr 1
  funext p
  show decide ((Sum.inl p.1 : Key) = Sum.inl k) = decide (p.1 = k)
  exact decide_eq_decide.mpr ⟨fun z => Sum.inl.inj z, fun z => by rw [z]⟩
theorem putK_entI (m : List (Int × Int)) (k v : Int) : putK (m.map entI) (Sum.inl k) (.int v) = (putI m k v).map entI := by
  unfold putK putI
  rw [any_entI]
  split
  · rw [List.map_map, List.map_map]
    apply List.map_congr_left
    intro p _
    show (if (Sum.inl p.1 : Key) = Sum.inl k then ((Sum.inl p.1 : Key), V.int v) else entI p) = entI (if p.1 = k then (p.1, v) else p)
    by_cases e : p.1 = k
    · rw [if_pos e, if_pos (by rw [e])]
      rfl
    · rw [if_neg e, if_neg fun z => e (Sum.inl.inj z)]
  · rw [List.map_append]
    rfl
theorem look_map (k j v : Int) : ∀ m : List (Int × Int), j ≠ k → lookI (m.map fun p => if p.1 = k then (p.1, v) else p) j = lookI m j
  | [], _ => rfl
  | p :: r, h => by
    rw [List.map_cons, lookI, lookI, look_map k j v r h]
    by_cases e : p.1 = k
    · rw [if_pos e]
      have h1 : ¬ p.1 = j := fun z => h (z.symm.trans e)
      rw [if_neg h1, if_neg h1]
    · rw [if_neg e]
theorem look_map_same (k v : Int) : ∀ m : List (Int × Int), (m.any fun p => decide (p.1 = k)) = true → lookI (m.map fun p => if p.1 = k then (p.1, v) else p) k = v
  | [], h => by simp at h
  | p :: r, h => by
    rw [List.map_cons, lookI]
    by_cases e : p.1 = k
    · rw [if_pos e, if_pos e]
    · rw [if_neg e, if_neg e]
      rw [List.any_cons, decide_eq_false e, Bool.false_or] at h
      exact look_map_same k v r h
theorem look_snoc (k j v : Int) : ∀ m : List (Int × Int), (m.any fun p => decide (p.1 = k)) = false → lookI (m ++ [(k, v)]) j = if j = k then v else lookI m j
  | [], _ => by
    show (if k = j then v else 0) = _
    by_cases e : j = k
    · rw [if_pos e, if_pos e.symm]
    · rw [if_neg e, if_neg fun z => e z.symm]
      rfl
  | p :: r, h => by
    rw [List.any_cons, Bool.or_eq_false_iff] at h
    have h1 : ¬ p.1 = k := of_decide_eq_false h.1
    rw [List.cons_append, lookI, lookI, look_snoc k j v r h.2]
    by_cases e : j = k
    · rw [if_pos e, if_neg (by rw [e]; exact h1), if_pos e]
    · rw [if_neg e, if_neg e]
theorem look_put (m : List (Int × Int)) (k j v : Int) : lookI (putI m k v) j = if j = k then v else lookI m j := by
  unfold putI
  split
  · rename_i h
    by_cases e : j = k
    · rw [if_pos e, e]
      exact look_map_same k v m h
    · rw [if_neg e]
      exact look_map k j v m e
  · rename_i h
    exact look_snoc k j v m (Bool.eq_false_iff.mpr h)
theorem look_add (m : List (Int × Int)) (k j v : Int) : lookI (addI m k v) j = lookI m j + if j = k then v else 0 := by
  unfold addI
  rw [look_put]
  by_cases e : j = k
  · rw [if_pos e, if_pos e, e]
  · rw [if_neg e, if_neg e]
    omega
theorem keys_put (m : List (Int × Int)) (k v : Int) : (putI m k v).map (·.1) = if (m.any fun p => decide (p.1 = k)) = true then m.map (·.1) else m.map (·.1) ++ [k] := by
  unfold putI
  split
  · rw [List.map_map]
    apply List.map_congr_left
    intro p _
    show (if p.1 = k then (p.1, v) else p).1 = p.1
    split <;> rfl
  · rw [List.map_append]
    rfl
theorem any_key (m : List (Int × Int)) (k : Int) : (m.any fun p => decide (p.1 = k)) = true ↔ k ∈ m.map (·.1) := by
  rw [List.any_eq_true]
  constructor
  · rintro ⟨p, hp, e⟩
    exact List.mem_map.mpr ⟨p, hp, of_decide_eq_true e⟩
  · intro h
    obtain ⟨p, hp, e⟩ := List.mem_map.mp h
    exact ⟨p, hp, decide_eq_true e⟩
theorem nodup_put {m : List (Int × Int)} (k v : Int) (h : (m.map (·.1)).Nodup) : ((putI m k v).map (·.1)).Nodup := by
  rw [keys_put]
  split
  · exact h
  · rename_i c
    have hk : k ∉ m.map (·.1) := fun z => c ((any_key m k).mpr z)
    rw [List.nodup_append]
    refine ⟨h, List.nodup_cons.mpr ⟨by simp, List.nodup_nil⟩, fun a ha b hb => ?_⟩
    rw [List.mem_singleton.mp hb]
    exact fun z => hk (z ▸ ha)
theorem len_put (m : List (Int × Int)) (k v : Int) : (putI m k v).length ≤ m.length + 1 := by
  have h := congrArg List.length (keys_put m k v)
  rw [List.length_map] at h
  rw [h]
  split
  · rw [List.length_map]
    omega
  · rw [List.length_append, List.length_map]
    exact Nat.le_refl _
theorem pos_put {m : List (Int × Int)} {k v : Int} (hv : 0 < v) (h : ∀ p ∈ m, 0 < p.2) : ∀ p ∈ putI m k v, 0 < p.2 := by
  intro p hp
  unfold putI at hp
  split at hp
  · obtain ⟨q, hq, e⟩ := List.mem_map.mp hp
    split at e
    · rw [← e]
      exact hv
    · rw [← e]
      exact h q hq
  · rcases List.mem_append.mp hp with hp | hp
    · exact h p hp
    · rw [List.mem_singleton.mp hp]
      exact hv
theorem look_nonneg : ∀ {m : List (Int × Int)} (k : Int), (∀ p ∈ m, 0 < p.2) → 0 ≤ lookI m k
  | [], _, _ => Int.le_refl 0
  | p :: r, k, h => by
    rw [lookI]
    split
    · exact Int.le_of_lt (h p List.mem_cons_self)
    · exact look_nonneg k fun q hq => h q (List.mem_cons_of_mem _ hq)
theorem pos_add {m : List (Int × Int)} {k v : Int} (hv : 0 < v) (h : ∀ p ∈ m, 0 < p.2) : ∀ p ∈ addI m k v, 0 < p.2 :=
  pos_put (by have := look_nonneg k h; omega) h
theorem look_mem {m : List (Int × Int)} (hn : (m.map (·.1)).Nodup) : ∀ {p : Int × Int}, p ∈ m → lookI m p.1 = p.2 := by
  induction m with
  | nil => intro p h; cases h
  | cons q r ih =>
    intro p h
    rw [List.map_cons, List.nodup_cons] at hn
    rw [lookI]
    rcases List.mem_cons.mp h with e | h
    · rw [e, if_pos rfl]
    · have nq : ¬ q.1 = p.1 := fun z => hn.1 (by rw [z]; exact List.mem_map.mpr ⟨p, h, rfl⟩)
      rw [if_neg nq]
      exact ih hn.2 h
theorem look_ne_mem : ∀ {m : List (Int × Int)} {k : Int}, lookI m k ≠ 0 → (k, lookI m k) ∈ m
  | [], k, h => absurd rfl h
  | p :: r, k, h => by
    rw [lookI] at h ⊢
    by_cases e : p.1 = k
    · rw [if_pos e]
      rw [← e]
      exact List.mem_cons_self
    · rw [if_neg e] at h ⊢
      exact List.mem_cons_of_mem _ (look_ne_mem h)

/-! ### throws, as functions of sums -/
/-- a die more: by how many throws each sum comes -/
def conv (g : Int → Int) (ds : List Int) : Int → Int := fun s => (ds.map fun f => g (s - f)).sum
def cnt0 : Int → Int := fun s => if s = 0 then 1 else 0
def cntF (dss : List (List Int)) : Int → Int := dss.foldl conv cnt0
/-- m tells g: each sum once, none that doesn't come -/
structure Tells (m : List (Int × Int)) (g : Int → Int) : Prop where
  nd : (m.map (·.1)).Nodup
  look : ∀ s, lookI m s = g s
  pos : ∀ p ∈ m, 0 < p.2
def inner (t n : Int) (m : List (Int × Int)) (ds : List Int) : List (Int × Int) := ds.foldl (fun m f => addI m (t + f) n) m
def withW (w : List (Int × Int)) (ds : List Int) : List (Int × Int) := w.foldl (fun m p => inner p.1 p.2 m ds) []
theorem inner_snoc (t n : Int) (m : List (Int × Int)) (ds : List Int) (f : Int) : inner t n m (ds ++ [f]) = addI (inner t n m ds) (t + f) n := by
  unfold inner
  rw [List.foldl_append]
  rfl
theorem withW_snoc (w : List (Int × Int)) (p : Int × Int) (ds : List Int) : withW (w ++ [p]) ds = inner p.1 p.2 (withW w ds) ds := by
  unfold withW
  rw [List.foldl_append]
  rfl
theorem inner_look (t n : Int) (s : Int) : ∀ (ds : List Int) (m : List (Int × Int)), lookI (inner t n m ds) s = lookI m s + (ds.map fun f => if s = t + f then n else 0).sum
  | [], m => by
    show lookI m s = lookI m s + 0
    omega
  | f :: r, m => by
    show lookI (inner t n (addI m (t + f) n) r) s = _
    rw [inner_look t n s r, look_add, List.map_cons, List.sum_cons]
    omega
theorem inner_nd (t n : Int) : ∀ (ds : List Int) (m : List (Int × Int)), (m.map (·.1)).Nodup → ((inner t n m ds).map (·.1)).Nodup
  | [], m, h => h
  | f :: r, m, h => inner_nd t n r _ (nodup_put _ _ h)
theorem inner_pos {t n : Int} (hn : 0 < n) : ∀ (ds : List Int) (m : List (Int × Int)), (∀ p ∈ m, 0 < p.2) → ∀ p ∈ inner t n m ds, 0 < p.2
  | [], m, h => h
  | f :: r, m, h => inner_pos hn r _ (pos_add hn h)
theorem inner_len (t n : Int) : ∀ (ds : List Int) (m : List (Int × Int)), (inner t n m ds).length ≤ m.length + ds.length
  | [], m => Nat.le_refl _
  | f :: r, m => by
    show (inner t n (addI m (t + f) n) r).length ≤ _
    have h1 := inner_len t n r (addI m (t + f) n)
    have h2 := len_put m (t + f) (lookI m (t + f) + n)
    rw [List.length_cons]
    unfold addI at h1
    unfold addI
    omega
theorem fold_look (ds : List Int) (s : Int) : ∀ (w m : List (Int × Int)), lookI (w.foldl (fun m p => inner p.1 p.2 m ds) m) s = lookI m s + (w.map fun p => (ds.map fun f => if s = p.1 + f then p.2 else 0).sum).sum
  | [], m => by
    show lookI m s = lookI m s + 0
    omega
  | p :: r, m => by
    show lookI (r.foldl (fun m p => inner p.1 p.2 m ds) (inner p.1 p.2 m ds)) s = _
    rw [fold_look ds s r, inner_look, List.map_cons, List.sum_cons]
    omega
theorem fold_nd (ds : List Int) : ∀ (w m : List (Int × Int)), (m.map (·.1)).Nodup → ((w.foldl (fun m p => inner p.1 p.2 m ds) m).map (·.1)).Nodup
  | [], m, h => h
  | p :: r, m, h => fold_nd ds r _ (inner_nd p.1 p.2 ds m h)
theorem fold_pos (ds : List Int) : ∀ (w m : List (Int × Int)), (∀ p ∈ w, 0 < p.2) → (∀ p ∈ m, 0 < p.2) → ∀ p ∈ w.foldl (fun m p => inner p.1 p.2 m ds) m, 0 < p.2
  | [], m, _, h => h
  | p :: r, m, hw, h => fold_pos ds r _ (fun q hq => hw q (List.mem_cons_of_mem _ hq)) (inner_pos (hw p List.mem_cons_self) ds m h)
theorem fold_len (ds : List Int) : ∀ (w m : List (Int × Int)), (w.foldl (fun m p => inner p.1 p.2 m ds) m).length ≤ m.length + w.length * ds.length
  | [], m => by simp
  | p :: r, m => by
    have h1 := fold_len ds r (inner p.1 p.2 m ds)
    have h2 := inner_len p.1 p.2 ds m
    show (r.foldl (fun m p => inner p.1 p.2 m ds) (inner p.1 p.2 m ds)).length ≤ _
    rw [List.length_cons, Nat.succ_mul]
    omega
theorem withW_len (w : List (Int × Int)) (ds : List Int) : (withW w ds).length ≤ w.length * ds.length := by
  have h := fold_len ds w []
  rw [List.length_nil, Nat.zero_add] at h
  exact h
/-- sums in two orders -/
theorem sum_add {α : Type} (f g : α → Int) : ∀ l : List α, (l.map fun x => f x + g x).sum = (l.map f).sum + (l.map g).sum
  | [] => rfl
  | x :: r => by
    rw [List.map_cons, List.map_cons, List.map_cons, List.sum_cons, List.sum_cons, List.sum_cons, sum_add f g r]
    omega
theorem sum_zero {α : Type} : ∀ l : List α, (l.map fun _ => (0 : Int)).sum = 0
  | [] => rfl
  | _ :: r => by rw [List.map_cons, List.sum_cons, sum_zero r]; rfl
theorem sum_swap {α β : Type} (f : α → β → Int) (bs : List β) : ∀ l : List α, (l.map fun x => (bs.map fun y => f x y).sum).sum = (bs.map fun y => (l.map fun x => f x y).sum).sum
  | [] => by
    show 0 = (bs.map fun _ => (0 : Int)).sum
    rw [sum_zero]
  | x :: r => by
    rw [List.map_cons, List.sum_cons, sum_swap f bs r]
    have e : (bs.map fun y => ((x :: r).map fun x => f x y).sum) = bs.map fun y => f x y + (r.map fun x => f x y).sum := by
      apply List.map_congr_left
      intro y _
      rw [List.map_cons, List.sum_cons]
    rw [e, sum_add]
theorem sum_look : ∀ {m : List (Int × Int)} (k : Int), (m.map (·.1)).Nodup → (m.map fun p => if p.1 = k then p.2 else 0).sum = lookI m k
  | [], _, _ => rfl
  | p :: r, k, h => by
    rw [List.map_cons, List.nodup_cons] at h
    rw [List.map_cons, List.sum_cons, sum_look k h.2, lookI]
    by_cases e : p.1 = k
    · rw [if_pos e, if_pos e]
      have z : lookI r k = 0 := by
        cases Decidable.em (lookI r k = 0) with
        | inl z => exact z
        | inr z => exact absurd (List.mem_map.mpr ⟨_, look_ne_mem z, rfl⟩) (by rw [← e] at z ⊢; exact h.1)
      omega
    · rw [if_neg e, if_neg e]
      omega
theorem tells_with {w : List (Int × Int)} {g : Int → Int} (T : Tells w g) (ds : List Int) : Tells (withW w ds) (conv g ds) where
  nd := fold_nd ds w [] List.nodup_nil
  look := fun s => by
    unfold withW
    rw [fold_look, sum_swap (fun (p : Int × Int) f => if s = p.1 + f then p.2 else 0) ds w]
    show 0 + _ = (ds.map fun f => g (s - f)).sum
    have e : (ds.map fun y => (w.map fun x => if s = x.1 + y then x.2 else 0).sum) = ds.map fun f => g (s - f) := by
      apply List.map_congr_left
      intro f _
      rw [← T.look, ← sum_look (s - f) T.nd]
      congr 1
      apply List.map_congr_left
      intro p _
      by_cases c : s = p.1 + f
      · rw [if_pos c, if_pos (by omega)]
      · rw [if_neg c, if_neg (by omega)]
    rw [e]
    omega
  pos := fold_pos ds w [] T.pos (fun p h => by cases h)
theorem tells_0 : Tells [(0, 1)] cnt0 where
  nd := by decide
  look := fun s => by
    show (if (0 : Int) = s then 1 else 0) = if s = 0 then 1 else 0
    by_cases e : s = 0
    · rw [if_pos e, if_pos e.symm]
    · rw [if_neg e, if_neg fun z => e z.symm]
  pos := by decide
def waysL (dss : List (List Int)) : List (Int × Int) := dss.foldl withW [(0, 1)]
theorem waysL_snoc (dss : List (List Int)) (ds : List Int) : waysL (dss ++ [ds]) = withW (waysL dss) ds := by
  unfold waysL
  rw [List.foldl_append]
  rfl
theorem tells_fold : ∀ (dss : List (List Int)) {w : List (Int × Int)} {g : Int → Int}, Tells w g → Tells (dss.foldl withW w) (dss.foldl conv g)
  | [], _, _, T => T
  | ds :: r, _, _, T => tells_fold r (tells_with T ds)
theorem tells_ways (dss : List (List Int)) : Tells (waysL dss) (cntF dss) := tells_fold dss tells_0
/-- a list of counts: rising sums, each with its number -/
structure IsCounts (g : Int → Int) (out : List (Int × Int)) : Prop where
  rise : out.Pairwise fun a b => a.1 < b.1
  mem : ∀ s n, (s, n) ∈ out ↔ n = g s ∧ n ≠ 0
theorem counts_of_tells {m out : List (Int × Int)} {g : Int → Int} (T : Tells m g) (hp : out.Perm m) (hr : out.Pairwise fun a b => a.1 < b.1) : IsCounts g out where
  rise := hr
  mem := fun s n => by
    rw [hp.mem_iff]
    constructor
    · intro h
      have e := look_mem T.nd h
      rw [T.look] at e
      have p := T.pos _ h
      exact ⟨e.symm, by show n ≠ 0; have p' : 0 < n := p; omega⟩
    · rintro ⟨e, h⟩
      rw [← T.look] at e
      rw [e] at h ⊢
      exact look_ne_mem h
theorem rise_of_lex {out : List (Int × Int)} (hn : (out.map (·.1)).Nodup) (h : out.Pairwise fun a b => SrtO.lexB b a = false) : out.Pairwise fun a b => a.1 < b.1 := by
  have hn2 : out.Pairwise fun a b => a.1 ≠ b.1 := List.pairwise_map.mp hn
  refine (hn2.and h).imp fun {a b} c => ?_
  have d := SrtO.lexB_no.mp c.2
  have := c.1
  omega
theorem counts_uniq : ∀ {l m : List (Int × Int)} {g : Int → Int}, IsCounts g l → IsCounts g m → l = m := by
  have key : ∀ (l m : List (Int × Int)), l.Pairwise (fun a b => a.1 < b.1) → m.Pairwise (fun a b => a.1 < b.1) → (∀ p, p ∈ l ↔ p ∈ m) → l = m := by
    intro l
    induction l with
    | nil =>
      intro m _ _ h
      cases m with
      | nil => rfl
      | cons b r => exact absurd ((h b).mpr List.mem_cons_self) (by simp)
    | cons a l ih =>
      intro m hl hm h
      cases m with
      | nil => exact absurd ((h a).mp List.mem_cons_self) (by simp)
      | cons b r =>
        obtain ⟨hl1, hl2⟩ := List.pairwise_cons.mp hl
        obtain ⟨hm1, hm2⟩ := List.pairwise_cons.mp hm
        have e : a = b := by
          rcases List.mem_cons.mp ((h a).mp List.mem_cons_self) with e | ha
          · exact e
          · rcases List.mem_cons.mp ((h b).mpr List.mem_cons_self) with e | hb
            · exact e.symm
            · have h1 := hl1 b hb
              have h2 := hm1 a ha
              omega
        subst e
        congr 1
        refine ih r hl2 hm2 fun p => ?_
        constructor
        · intro hp
          rcases List.mem_cons.mp ((h p).mp (List.mem_cons_of_mem _ hp)) with e | q
          · have := hl1 p hp
            rw [e] at this
            omega
          · exact q
        · intro hp
          rcases List.mem_cons.mp ((h p).mpr (List.mem_cons_of_mem _ hp)) with e | q
          · have := hm1 p hp
            rw [e] at this
            omega
          · exact q
  intro l m g hl hm
  refine key l m hl.rise hm.rise fun p => ?_
  obtain ⟨s, n⟩ := p
  rw [hl.mem, hm.mem]

/-! ### the order of dice and of faces is nothing -/
theorem sum_perm : ∀ {l m : List Int}, l.Perm m → l.sum = m.sum := by
  intro l m h
  induction h with
  | nil => rfl
  | cons x _ ih => rw [List.sum_cons, List.sum_cons, ih]
  | swap x y l => rw [List.sum_cons, List.sum_cons, List.sum_cons, List.sum_cons]; omega
  | trans _ _ h1 h2 => rw [h1, h2]
theorem conv_perm (g : Int → Int) {a b : List Int} (h : a.Perm b) : conv g a = conv g b := by
  funext s
  exact sum_perm (h.map _)
theorem conv_comm (g : Int → Int) (a b : List Int) : conv (conv g a) b = conv (conv g b) a := by
  funext s
  show (b.map fun f => (a.map fun e => g (s - f - e)).sum).sum = (a.map fun e => (b.map fun f => g (s - e - f)).sum).sum
  rw [sum_swap (fun f e => g (s - f - e)) a b]
  congr 1
  apply List.map_congr_left
  intro e _
  congr 1
  apply List.map_congr_left
  intro f _
  congr 1
  omega
theorem fold_conv_perm {l m : List (List Int)} (h : l.Perm m) : ∀ g, l.foldl conv g = m.foldl conv g := by
  induction h with
  | nil => intro g; rfl
  | cons x _ ih => intro g; exact ih (conv g x)
  | swap x y l =>
    intro g
    show l.foldl conv (conv (conv g y) x) = l.foldl conv (conv (conv g x) y)
    rw [conv_comm]
  | trans _ _ h1 h2 => intro g; rw [h1, h2]
theorem cntF_perm {l m : List (List Int)} (h : l.Perm m) : cntF l = cntF m := fold_conv_perm h cnt0
theorem cntF_head {a b : List Int} (h : a.Perm b) (r : List (List Int)) : cntF (a :: r) = cntF (b :: r) := by
  show r.foldl conv (conv cnt0 a) = r.foldl conv (conv cnt0 b)
  rw [conv_perm cnt0 h]
end My

/-! Walks over a locked dict; lists of lists; a comprehension over a range. -/
namespace My
open PySem PySem.Spec PyProof.Rows L2
section
variable {g : TG} {tb : TS} {D : Ends} {σ : L2.St} {H : Hp} {d : Addr} {o : Obj} {kvs : List (Key × V)}
theorem for_items (Pv : Nat → L2.St → Hp → Prop) (h0 : Pv 0 σ H) (hl : ∀ i σ H, Pv i σ H → H d = some (.frz o (.dK kvs)))
    (hs : ∀ i k v σ H T, kvs[i]? = some (k, v) → Pv i σ H → H T = none → g (.ref T) σ (upd H T (.tup [kV k, v])) fun σ2 H2 => tb { D with nx := Pv (i + 1), ct := Pv (i + 1), bk := D.nx } σ2 H2)
    (hd : ∀ σ H, Pv kvs.length σ H → D.nx σ H) :
    ∃ W : Nat → Nat → L2.St → Hp → Prop, (∃ m, W 0 m σ H) ∧ ∀ i m σ H, W i m σ H →
      ((Iti d o kvs).stop i H ∧ D.nx σ H) ∨ ((Iti d o kvs).go i H ∧ ∃ N : L2.St → Hp → Prop, (∀ σ' H', N σ' H' → ∃ m', m' < m ∧ W (i + 1) m' σ' H') ∧ ∀ x H', (Iti d o kvs).yld i H x H' → g x σ H' fun σ2 H2 => tb { D with nx := N, ct := N, bk := D.nx } σ2 H2) := by
  refine ⟨fun i m σ H => i + m = kvs.length ∧ Pv i σ H, ⟨kvs.length, by omega, h0⟩, ?_⟩
  rintro i m σ H ⟨em, p⟩
  have q := hl i σ H p
  by_cases hi : i < kvs.length
  · refine .inr ⟨⟨q, hi⟩, Pv (i + 1), fun σ' H' p' => ⟨m - 1, by omega, by omega, p'⟩, fun x H' hy => ?_⟩
    obtain ⟨T, k, v, e1, rfl, nT, rfl⟩ := hy
    exact hs i k v σ H T e1 p nT
  · have ei : i = kvs.length := by omega
    subst ei
    exact .inl ⟨⟨q, Nat.le_refl _⟩, hd σ H p⟩
theorem for_keys (Pv : Nat → L2.St → Hp → Prop) (h0 : Pv 0 σ H) (hl : ∀ i σ H, Pv i σ H → H d = some (.frz o (.dK kvs)))
    (hs : ∀ i k v σ H, kvs[i]? = some (k, v) → Pv i σ H → g (kV k) σ H fun σ2 H2 => tb { D with nx := Pv (i + 1), ct := Pv (i + 1), bk := D.nx } σ2 H2)
    (hd : ∀ σ H, Pv kvs.length σ H → D.nx σ H) :
    ∃ W : Nat → Nat → L2.St → Hp → Prop, (∃ m, W 0 m σ H) ∧ ∀ i m σ H, W i m σ H →
      ((Itk d o kvs).stop i H ∧ D.nx σ H) ∨ ((Itk d o kvs).go i H ∧ ∃ N : L2.St → Hp → Prop, (∀ σ' H', N σ' H' → ∃ m', m' < m ∧ W (i + 1) m' σ' H') ∧ ∀ x H', (Itk d o kvs).yld i H x H' → g x σ H' fun σ2 H2 => tb { D with nx := N, ct := N, bk := D.nx } σ2 H2) := by
  refine ⟨fun i m σ H => i + m = kvs.length ∧ Pv i σ H, ⟨kvs.length, by omega, h0⟩, ?_⟩
  rintro i m σ H ⟨em, p⟩
  have q := hl i σ H p
  by_cases hi : i < kvs.length
  · refine .inr ⟨⟨q, hi⟩, Pv (i + 1), fun σ' H' p' => ⟨m - 1, by omega, by omega, p'⟩, fun x H' hy => ?_⟩
    obtain ⟨rfl, k, v, e1, rfl⟩ := hy
    exact hs i k v σ _ e1 p
  · have ei : i = kvs.length := by omega
    subst ei
    exact .inl ⟨⟨q, Nat.le_refl _⟩, hd σ H p⟩
end
/-- under a lock all but the locked one stands; unlocked, all -/
theorem same_unlock {H H' : Hp} {d : Addr} {od : Obj} {u : HO} (hd : H d = some u) (e : Same (upd H d (.frz od u)) H') : Same H (upd H' d u) := fun b o q => by
  by_cases hb : b = d
  · subst hb
    rw [hd] at q
    cases q
    exact upd_same
  · rw [upd_ne hb]
    refine e b o ?_
    rw [upd_ne hb]
    exact q
/-- a list of lists of whole numbers -/
def DiceAt (H : Hp) (a : Addr) (ps : List Addr) (dss : List (List Int)) : Prop :=
  H a = some (.lst (ps.map V.ref)) ∧ Paired (fun p ds => H p = some (.lst (ds.map V.int))) ps dss
theorem paired_at {α β : Type} {F : α → β → Prop} : ∀ {xs : List α} {ys : List β}, Paired F xs ys → ∀ {i : Nat} {x : α}, xs[i]? = some x → ∃ y, ys[i]? = some y ∧ F x y
  | _, _, .nil, i, x, h => by simp at h
  | _, _, .cons r t, 0, x, h => by
    have e := Option.some.inj h
    subst e
    exact ⟨_, rfl, r⟩
  | _, _, .cons r t, i + 1, x, h => paired_at t (i := i) h
theorem paired_mono {α β : Type} {F G : α → β → Prop} {xs : List α} {ys : List β} (h : Paired F xs ys) (k : ∀ a b, F a b → G a b) : Paired G xs ys := by
  induction h with
  | nil => exact .nil
  | cons r t ih => exact .cons (k _ _ r) ih
theorem DiceAt.mono {H H' : Hp} {a : Addr} {ps : List Addr} {dss : List (List Int)} (e : Same H H') (h : DiceAt H a ps dss) : DiceAt H' a ps dss :=
  ⟨e _ _ h.1, paired_mono h.2 fun p ds q => e _ _ q⟩
theorem paired_len {α β : Type} {F : α → β → Prop} {xs : List α} {ys : List β} (h : Paired F xs ys) : xs.length = ys.length := by
  induction h with
  | nil => rfl
  | cons r t ih => rw [List.length_cons, List.length_cons, ih]
theorem paired_snoc {α β : Type} {F : α → β → Prop} {xs : List α} {ys : List β} {x : α} {y : β} (h : Paired F xs ys) (r : F x y) : Paired F (xs ++ [x]) (ys ++ [y]) := by
  induction h with
  | nil => exact .cons r .nil
  | cons q t ih => exact .cons q ih
/-- rows: tuples of two whole numbers -/
def RowsAt (H : Hp) (a : Addr) (ps : List (Addr × Int × Int)) : Prop :=
  H a = some (.lst (ps.map fun z => V.ref z.1)) ∧ ∀ z ∈ ps, H z.1 = some (.tup [.int z.2.1, .int z.2.2])
theorem RowsAt.mono {H H' : Hp} {a : Addr} {ps : List (Addr × Int × Int)} (e : Same H H') (h : RowsAt H a ps) : RowsAt H' a ps :=
  ⟨e _ _ h.1, fun z hz => e _ _ (h.2 z hz)⟩
theorem take_snoc {α : Type} {l : List α} {i : Nat} {x : α} (h : l[i]? = some x) : l.take (i + 1) = l.take i ++ [x] := by
  rw [List.take_add_one, h]
  rfl
end My
namespace My
open PySem PySem.Spec PyProof.Rows L2
/-- a comprehension over a list that makes tuples of two whole numbers -/
theorem lc_pairs {K : PySem.W.Frag} {a : Addr} {xs : List V} {g : TG} {tt : TT} {te : TE} {vs : List Nat} {σ : L2.St} {H1 : Hp} {D : Addr} {Qd : Hp → Prop} (f : V → Int × Int)
    (nD : H1 D = none) (hS : SqL K H1 a xs) (len : xs.length < 1000000)
    (hs : ∀ x H' (R : V → Hp → Prop), x ∈ xs → Same H1 H' → (∀ H4 t, Same H' H4 → H' t = none → H4 t = some (.tup [.int (f x).1, .int (f x).2]) → R (.ref t) H4) →
      ∀ N : Hp → Prop, g x (wipe σ vs) H' fun σ2 H2 => wipe σ2 vs = wipe σ vs ∧ tt σ2 H2 fun b H3 => if b = true then te σ2 H3 R else N H3)
    (hd : ∀ H' (rows : List (Addr × Int × Int)), Same H1 H' → RowsAt H' D rows → (∀ z ∈ rows, H1 z.1 = none) → D ∉ rows.map (·.1) → rows.map (·.2) = xs.map f → Qd H') :
    ∃ W : Nat → Nat → Hp → Prop, (∃ m, W 0 m (upd H1 D (.lst []))) ∧ ∀ i m H, W i m H →
      ((Itl K a).stop i H ∧ Qd H) ∨ ((Itl K a).go i H ∧ ∃ Nx : Hp → Prop, (∀ H', Nx H' → ∃ m', m' < m ∧ W (i + 1) m' H') ∧ ∀ x H', (Itl K a).yld i H x H' → g x (wipe σ vs) H' fun σ2 H2 => wipe σ2 vs = wipe σ vs ∧ tt σ2 H2 fun b H3 =>
        if b = true then te σ2 H3 fun y H4 => ∃ acc, H4 D = some (.lst acc) ∧ acc.length < sizeLine ∧ Nx (upd H4 D (.lst (acc ++ [y]))) else Nx H3) := by
  refine lc_list (K := K) (a := a) (xs := xs) (fun i H => Same H1 H ∧ ∃ rows : List (Addr × Int × Int), RowsAt H D rows ∧ (∀ z ∈ rows, H1 z.1 = none) ∧ D ∉ rows.map (·.1) ∧ rows.map (·.2) = (xs.take i).map f)
    ⟨same_new nD, [], ⟨upd_same, fun z h => by cases h⟩, fun z h => (by cases h), (by simp), rfl⟩ (fun i H _ p => p.1.seq hS) ?_ ?_
  · rintro i x H hi ⟨p1, rows, ⟨r1, r2⟩, r3, r4, r5⟩
    refine hs x H _ (List.mem_of_getElem? hi) p1 (fun H4 t e4 nt ht => ?_) _
    have nDt : D ≠ t := ne_of_none r1 nt
    have l5 : rows.length = i ∨ rows.length ≤ xs.length := by
      have z := congrArg List.length r5
      rw [List.length_map, List.length_map, List.length_take] at z
      omega
    have l6 : rows.length ≤ xs.length := by
      have z := congrArg List.length r5
      rw [List.length_map, List.length_map, List.length_take] at z
      omega
    refine ⟨_, e4 _ _ r1, sz_lt (by rw [List.length_map]; omega), fun b o e => ?_, rows ++ [(t, f x)], ⟨?_, fun z hz => ?_⟩, fun z hz => ?_, ?_, ?_⟩
    · rw [upd_ne (ne_of_none e nD)]
      exact e4 _ _ (p1 _ _ e)
    · rw [upd_same, List.map_append]
      rfl
    · rcases List.mem_append.mp hz with hz | hz
      · rw [upd_ne fun c => r4 (List.mem_map.mpr ⟨z, hz, c⟩)]
        exact e4 _ _ (r2 z hz)
      · rw [List.mem_singleton.mp hz, upd_ne nDt.symm]
        exact ht
    · rcases List.mem_append.mp hz with hz | hz
      · exact r3 z hz
      · rw [List.mem_singleton.mp hz]
        exact Same.free p1 nt
    · rw [List.map_append]
      intro c
      rcases List.mem_append.mp c with c | c
      · exact r4 c
      · exact nDt (List.mem_singleton.mp c)
    · rw [take_snoc hi, List.map_append, List.map_append, r5]
      rfl
  · rintro H ⟨p1, rows, r1, r3, r4, r5⟩
    rw [List.take_length] at r5
    exact hd H rows p1 r1 r3 r4 r5
end My
namespace My
open PySem PySem.Spec PyProof.Rows L2
theorem paired_in {α β : Type} {F : α → β → Prop} {xs : List α} {ys : List β} (h : Paired F xs ys) {G : α → β → Prop} (k : ∀ a b, a ∈ xs → F a b → G a b) : Paired G xs ys := by
  induction h with
  | nil => exact .nil
  | cons r t ih => exact .cons (k _ _ List.mem_cons_self r) (ih fun a b ha => k a b (List.mem_cons_of_mem _ ha))
/-- what a comprehension that makes new lists of whole numbers has made so far -/
structure Made (H1 H : Hp) (D : Addr) (Gd : Nat → List Int → Prop) (n : Nat) : Prop where
  same : Same H1 H
  made : ∃ qs cs, DiceAt H D qs cs ∧ qs.length = n ∧ (∀ q ∈ qs, H1 q = none) ∧ D ∉ qs ∧ qs.Nodup ∧ ∀ i c, cs[i]? = some c → Gd i c
theorem Made.zero {H1 : Hp} {D : Addr} {Gd : Nat → List Int → Prop} (nD : H1 D = none) : Made H1 (upd H1 D (.lst [])) D Gd 0 where
  same := same_new nD
  made := ⟨[], [], ⟨upd_same, .nil⟩, rfl, fun q h => (by cases h), (by simp), List.nodup_nil, fun i c h => by simp at h⟩
theorem Made.more {H1 H H4 : Hp} {D q : Addr} {Gd : Nat → List Int → Prop} {n : Nat} {c : List Int} (nD : H1 D = none) (hn : n < 1000000) (M : Made H1 H D Gd n) (e : Same H H4) (nq : H q = none) (hq : H4 q = some (.lst (c.map V.int))) (g : Gd n c) :
    ∃ acc, H4 D = some (.lst acc) ∧ acc.length < sizeLine ∧ Made H1 (upd H4 D (.lst (acc ++ [.ref q]))) D Gd (n + 1) := by
  obtain ⟨qs, cs, hD, ln, fr, nin, nd, gd⟩ := M.made
  have hDD := e _ _ hD.1
  have nDq : D ≠ q := ne_of_none hD.1 nq
  have lc : qs.length = cs.length := paired_len hD.2
  have nqs : q ∉ qs := fun z => by
    obtain ⟨c', _, r⟩ : ∃ c' ∈ cs, H q = some (.lst (c'.map V.int)) := by
      obtain ⟨i, hi⟩ := List.mem_iff_getElem?.mp z
      obtain ⟨y, hy, r⟩ := paired_at hD.2 hi
      exact ⟨y, List.mem_of_getElem? hy, r⟩
    rw [nq] at r
    cases r
  refine ⟨_, hDD, sz_lt (by rw [List.length_map]; omega), fun b o z => ?_, qs ++ [q], cs ++ [c], ⟨?_, ?_⟩, ?_, fun p hp => ?_, ?_, ?_, fun i d hi => ?_⟩
  · rw [upd_ne (ne_of_none z nD)]
    exact e _ _ (M.same _ _ z)
  · rw [upd_same, List.map_append]
    rfl
  · refine paired_snoc ?_ ?_
    · have nin2 : ∀ p ∈ qs, p ≠ D := fun p hp z => nin (z ▸ hp)
      exact paired_in hD.2 fun p ds hp r => by
        rw [upd_ne (nin2 p hp)]
        exact e _ _ r
    · rw [upd_ne nDq.symm]
      exact hq
  · rw [List.length_append, ln]
    rfl
  · rcases List.mem_append.mp hp with hp | hp
    · exact fr p hp
    · rw [List.mem_singleton.mp hp]
      exact Same.free M.same nq
  · intro z
    rcases List.mem_append.mp z with z | z
    · exact nin z
    · exact nDq (List.mem_singleton.mp z)
  · rw [List.nodup_append]
    refine ⟨nd, List.nodup_cons.mpr ⟨by simp, List.nodup_nil⟩, fun a ha b hb => ?_⟩
    rw [List.mem_singleton.mp hb]
    exact fun z => nqs (z ▸ ha)
  · by_cases hlt : i < cs.length
    · rw [List.getElem?_append_left hlt] at hi
      exact gd i d hi
    · rw [List.getElem?_append_right (by omega)] at hi
      have hi0 : i - cs.length = 0 := by
        cases h0 : i - cs.length with
        | zero => rfl
        | succ k => rw [h0] at hi; simp at hi
      rw [hi0] at hi
      have ed : d = c := (Option.some.inj hi).symm
      have ei : i = n := by omega
      rw [ed, ei]
      exact g
/-- over a range -/
theorem lr_lists {g : TG} {tt : TT} {te : TE} {vs : List Nat} {σ : L2.St} {H1 : Hp} {D : Addr} {Qd : Hp → Prop} {lo : Int} {n : Nat} (Gd : Nat → List Int → Prop) (nD : H1 D = none) (len : n < 1000000)
    (hs : ∀ i H' (R : V → Hp → Prop), i < n → Same H1 H' → (∀ H4 q c, Same H' H4 → H' q = none → H4 q = some (.lst (c.map V.int)) → Gd i c → R (.ref q) H4) →
      ∀ N : Hp → Prop, g (.int (lo + i)) (wipe σ vs) H' fun σ2 H2 => wipe σ2 vs = wipe σ vs ∧ tt σ2 H2 fun b H3 => if b = true then te σ2 H3 R else N H3)
    (hd : ∀ H', Made H1 H' D Gd n → Qd H') :
    ∃ W : Nat → Nat → Hp → Prop, (∃ m, W 0 m (upd H1 D (.lst []))) ∧ ∀ i m H, W i m H →
      ((Itr lo n).stop i H ∧ Qd H) ∨ ((Itr lo n).go i H ∧ ∃ Nx : Hp → Prop, (∀ H', Nx H' → ∃ m', m' < m ∧ W (i + 1) m' H') ∧ ∀ x H', (Itr lo n).yld i H x H' → g x (wipe σ vs) H' fun σ2 H2 => wipe σ2 vs = wipe σ vs ∧ tt σ2 H2 fun b H3 =>
        if b = true then te σ2 H3 fun y H4 => ∃ acc, H4 D = some (.lst acc) ∧ acc.length < sizeLine ∧ Nx (upd H4 D (.lst (acc ++ [y]))) else Nx H3) := by
  refine lc_range (lo := lo) (n := n) (fun i H => Made H1 H D Gd i) (Made.zero nD) ?_ hd
  intro i H hi M
  exact hs i H _ hi M.same (fun H4 q c e nq hq g => M.more nD (by omega) e nq hq g) _
/-- over a list -/
theorem ll_lists {K : PySem.W.Frag} {a : Addr} {xs : List V} {g : TG} {tt : TT} {te : TE} {vs : List Nat} {σ : L2.St} {H1 : Hp} {D : Addr} {Qd : Hp → Prop} (Gd : Nat → List Int → Prop) (nD : H1 D = none) (hS : SqL K H1 a xs) (len : xs.length < 1000000)
    (hs : ∀ i x H' (R : V → Hp → Prop), xs[i]? = some x → Same H1 H' → (∀ H4 q c, Same H' H4 → H' q = none → H4 q = some (.lst (c.map V.int)) → Gd i c → R (.ref q) H4) →
      ∀ N : Hp → Prop, g x (wipe σ vs) H' fun σ2 H2 => wipe σ2 vs = wipe σ vs ∧ tt σ2 H2 fun b H3 => if b = true then te σ2 H3 R else N H3)
    (hd : ∀ H', Made H1 H' D Gd xs.length → Qd H') :
    ∃ W : Nat → Nat → Hp → Prop, (∃ m, W 0 m (upd H1 D (.lst []))) ∧ ∀ i m H, W i m H →
      ((Itl K a).stop i H ∧ Qd H) ∨ ((Itl K a).go i H ∧ ∃ Nx : Hp → Prop, (∀ H', Nx H' → ∃ m', m' < m ∧ W (i + 1) m' H') ∧ ∀ x H', (Itl K a).yld i H x H' → g x (wipe σ vs) H' fun σ2 H2 => wipe σ2 vs = wipe σ vs ∧ tt σ2 H2 fun b H3 =>
        if b = true then te σ2 H3 fun y H4 => ∃ acc, H4 D = some (.lst acc) ∧ acc.length < sizeLine ∧ Nx (upd H4 D (.lst (acc ++ [y]))) else Nx H3) := by
  refine lc_list (K := K) (a := a) (xs := xs) (fun i H => Made H1 H D Gd i) (Made.zero nD) (fun i H _ M => M.same.seq hS) ?_ hd
  intro i x H hi M
  have hl : i < xs.length := (List.getElem?_eq_some_iff.mp hi).1
  exact hs i x H _ hi M.same (fun H4 q c e nq hq g => M.more nD (by omega) e nq hq g) _
theorem paired_reverse {α β : Type} {F : α → β → Prop} {xs : List α} {ys : List β} (h : Paired F xs ys) : Paired F xs.reverse ys.reverse := by
  induction h with
  | nil => exact .nil
  | cons r t ih =>
    rw [List.reverse_cons, List.reverse_cons]
    exact paired_snoc ih r
theorem paired_eq {α β : Type} {F G : α → β → Prop} : ∀ {xs : List α} {ys zs : List β}, Paired F xs ys → Paired G xs zs → (∀ a b c, F a b → G a c → b = c) → ys = zs
  | [], _, _, .nil, .nil, _ => rfl
  | x :: xs, _, _, .cons r t, .cons r' t', k => by rw [k _ _ _ r r', paired_eq t t' k]
end My

/-! Throws, one by one, and what the counts tell of them; a comprehension over a range with a test. -/
namespace My
open PySem PySem.Spec PyProof.Rows L2
/-- the sums of all throws with one die more -/
def more1 (T : List Int) (ds : List Int) : List Int := ds.flatMap fun f => T.map (· + f)
def throwsL (dss : List (List Int)) : List Int := dss.foldl more1 [0]
theorem throwsL_snoc (dss : List (List Int)) (ds : List Int) : throwsL (dss ++ [ds]) = more1 (throwsL dss) ds := by
  unfold throwsL
  rw [List.foldl_append]
  rfl
theorem more1_snoc (T ds : List Int) (f : Int) : more1 T (ds ++ [f]) = more1 T ds ++ T.map (· + f) := by
  unfold more1
  rw [List.flatMap_append]
  simp
theorem more1_len (T : List Int) : ∀ ds : List Int, (more1 T ds).length = ds.length * T.length
  | [] => by simp [more1]
  | f :: r => by
    have ih := more1_len T r
    unfold more1 at ih ⊢
    rw [List.flatMap_cons, List.length_append, List.length_map, ih, List.length_cons, Nat.succ_mul]
    omega
theorem throws_len : ∀ (dss : List (List Int)) (T : List Int), (∀ ds ∈ dss, ds.length ≤ 8) → (dss.foldl more1 T).length ≤ T.length * 8 ^ dss.length
  | [], T, _ => by simp
  | ds :: r, T, h => by
    have h1 := throws_len r (more1 T ds) fun x hx => h x (List.mem_cons_of_mem _ hx)
    have h2 := more1_len T ds
    have h3 : ds.length * T.length ≤ 8 * T.length := Nat.mul_le_mul_right _ (h ds List.mem_cons_self)
    have h4 : (more1 T ds).length * 8 ^ r.length ≤ (8 * T.length) * 8 ^ r.length := Nat.mul_le_mul_right _ (by omega)
    show (r.foldl more1 (more1 T ds)).length ≤ T.length * 8 ^ (r.length + 1)
    rw [Nat.pow_succ, Nat.mul_comm (8 ^ r.length) 8, ← Nat.mul_assoc, Nat.mul_comm T.length 8]
    omega
theorem throws_top {dss : List (List Int)} (h : ∀ ds ∈ dss, ds.length ≤ 8) (l : dss.length ≤ 4) : (throwsL dss).length ≤ 4096 := by
  have h1 := throws_len dss [0] h
  have h2 : (8 : Nat) ^ dss.length ≤ 8 ^ 4 := Nat.pow_le_pow_right (by decide) l
  have h3 : (8 : Nat) ^ 4 = 4096 := by decide
  have h4 : ([0] : List Int).length = 1 := rfl
  rw [h4] at h1
  unfold throwsL
  omega
theorem throws_pos : ∀ (dss : List (List Int)) (T : List Int), (∀ ds ∈ dss, 1 ≤ ds.length) → 1 ≤ T.length → 1 ≤ (dss.foldl more1 T).length
  | [], T, _, h => h
  | ds :: r, T, h, hT => throws_pos r (more1 T ds) (fun x hx => h x (List.mem_cons_of_mem _ hx)) (by
      rw [more1_len]
      exact Nat.mul_pos (h ds List.mem_cons_self) hT)
theorem throws_nonneg : ∀ (dss : List (List Int)) (T : List Int), (∀ ds ∈ dss, ∀ f ∈ ds, 0 ≤ f) → (∀ t ∈ T, 0 ≤ t) → ∀ t ∈ dss.foldl more1 T, 0 ≤ t
  | [], T, _, h => h
  | ds :: r, T, h, hT => throws_nonneg r (more1 T ds) (fun x hx => h x (List.mem_cons_of_mem _ hx)) fun t ht => by
      obtain ⟨f, hf, ht⟩ := List.mem_flatMap.mp ht
      obtain ⟨u, hu, rfl⟩ := List.mem_map.mp ht
      have h1 := h ds List.mem_cons_self f hf
      have h2 := hT u hu
      show 0 ≤ u + f
      omega
/-! ### counting -/
def cntT (T : List Int) : Int → Int := fun s => ((T.count s : Nat) : Int)
theorem count_shift (f s : Int) : ∀ T : List Int, (T.map (· + f)).count s = T.count (s - f)
  | [] => rfl
  | t :: r => by
    rw [List.map_cons, List.count_cons, List.count_cons, count_shift f s r]
    have e : ((t + f == s) : Bool) = (t == s - f) := by
      rw [Bool.eq_iff_iff, beq_iff_eq, beq_iff_eq]
      omega
    rw [e]
theorem cnt_more (T : List Int) : ∀ ds : List Int, cntT (more1 T ds) = conv (cntT T) ds
  | [] => by
    funext s
    show (((more1 T []).count s : Nat) : Int) = 0
    simp [more1]
  | f :: r => by
    funext s
    have ih := congrFun (cnt_more T r) s
    show (((more1 T (f :: r)).count s : Nat) : Int) = cntT T (s - f) + (r.map fun f => cntT T (s - f)).sum
    have ih2 : (((more1 T r).count s : Nat) : Int) = (r.map fun f => cntT T (s - f)).sum := ih
    rw [← ih2]
    show ((((f :: r).flatMap fun f => T.map (· + f)).count s : Nat) : Int) = _
    rw [List.flatMap_cons, List.count_append, count_shift]
    show ((T.count (s - f) + (more1 T r).count s : Nat) : Int) = ((T.count (s - f) : Nat) : Int) + (((more1 T r).count s : Nat) : Int)
    omega
theorem cnt_throws_from : ∀ (dss : List (List Int)) (T : List Int) (g : Int → Int), cntT T = g → cntT (dss.foldl more1 T) = dss.foldl conv g
  | [], T, g, h => h
  | ds :: r, T, g, h => cnt_throws_from r (more1 T ds) (conv g ds) (by rw [cnt_more, h])
theorem cnt_throws (dss : List (List Int)) : cntT (throwsL dss) = cntF dss := cnt_throws_from dss [0] cnt0 (by
  funext s
  show ((([0] : List Int).count s : Nat) : Int) = if s = 0 then 1 else 0
  rw [List.count_cons]
  by_cases e : s = 0
  · rw [if_pos e, e]
    rfl
  · have e2 : ((0 : Int) == s) = false := beq_eq_false_iff_ne.mpr fun z => e z.symm
    rw [if_neg e, e2]
    rfl)
theorem sum_one (keep : Int → Bool) (t : Int) : ∀ ks : List Int, ks.Nodup → t ∈ ks → ((ks.map fun k => if keep k = true then (if t = k then (1 : Int) else 0) else 0).sum = if keep t = true then 1 else 0)
  | [], _, h => by cases h
  | k :: r, hn, h => by
    obtain ⟨h1, h2⟩ := List.nodup_cons.mp hn
    rw [List.map_cons, List.sum_cons]
    by_cases e : t = k
    · have z : (r.map fun k => if keep k = true then (if t = k then (1 : Int) else 0) else 0) = r.map fun _ => (0 : Int) := by
        apply List.map_congr_left
        intro j hj
        have : ¬ t = j := fun c => h1 (by rw [← e, c]; exact hj)
        rw [if_neg this]
        split <;> rfl
      rw [z, sum_zero, ← e, if_pos rfl]
      omega
    · have hr : t ∈ r := (List.mem_cons.mp h).resolve_left e
      rw [sum_one keep t r h2 hr, if_neg e]
      have : (if keep k = true then (0 : Int) else 0) = 0 := by split <;> rfl
      rw [this]
      omega
theorem sum_count (keep : Int → Bool) (ks : List Int) (hn : ks.Nodup) : ∀ T : List Int, (∀ t ∈ T, t ∈ ks) → (ks.map fun k => if keep k = true then cntT T k else 0).sum = (((T.filter keep).length : Nat) : Int)
  | [], _ => by
    have z : (ks.map fun k => if keep k = true then cntT [] k else 0) = ks.map fun _ => (0 : Int) := by
      apply List.map_congr_left
      intro j _
      show (if keep j = true then (((([] : List Int).count j : Nat)) : Int) else 0) = 0
      simp
    rw [z, sum_zero]
    rfl
  | t :: T, h => by
    have ih := sum_count keep ks hn T fun u hu => h u (List.mem_cons_of_mem _ hu)
    have e : (ks.map fun k => if keep k = true then cntT (t :: T) k else 0) = ks.map fun k => (if keep k = true then cntT T k else 0) + (if keep k = true then (if t = k then (1 : Int) else 0) else 0) := by
      apply List.map_congr_left
      intro k _
      show (if keep k = true then (((t :: T).count k : Nat) : Int) else 0) = (if keep k = true then ((T.count k : Nat) : Int) else 0) + _
      by_cases c : keep k = true
      · rw [if_pos c, if_pos c, if_pos c, List.count_cons]
        by_cases e : t = k
        · rw [if_pos e, e]
          simp
        · have e2 : (t == k) = false := beq_eq_false_iff_ne.mpr e
          rw [if_neg e, e2]
          simp
      · rw [if_neg c, if_neg c, if_neg c]
        rfl
    rw [e, sum_add, ih, sum_one keep t ks hn (h t List.mem_cons_self), List.filter_cons]
    split
    · rw [List.length_cons]
      omega
    · omega
/-- what counts tell of the throws: how many of them are kept -/
theorem counts_kept {out : List (Int × Int)} {T : List Int} (keep : Int → Bool) (h : IsCounts (cntT T) out) : ((out.filter fun p => keep p.1).map (·.2)).sum = (((T.filter keep).length : Nat) : Int) := by
  have hn : (out.map (·.1)).Nodup := by
    have : out.Pairwise fun a b => a.1 ≠ b.1 := h.rise.imp fun {a b} c => by omega
    exact List.pairwise_map.mpr this
  have hin : ∀ t ∈ T, t ∈ out.map (·.1) := fun t ht => List.mem_map.mpr ⟨(t, cntT T t), (h.mem _ _).mpr ⟨rfl, by
    have : 0 < T.count t := List.count_pos_iff.mpr ht
    show ((T.count t : Nat) : Int) ≠ 0
    omega⟩, rfl⟩
  rw [← sum_count keep _ hn T hin, List.map_map]
  have all : ∀ p ∈ out, p.2 = cntT T p.1 := fun p hp => ((h.mem p.1 p.2).mp hp).1
  clear hin hn h
  induction out with
  | nil => rfl
  | cons p r ih =>
    have ih2 := ih fun q hq => all q (List.mem_cons_of_mem _ hq)
    rw [List.map_cons, List.sum_cons, ← ih2, List.filter_cons]
    show _ = (if keep p.1 = true then cntT T p.1 else 0) + _
    by_cases c : keep p.1 = true
    · rw [if_pos c, if_pos c, List.map_cons, List.sum_cons, all p List.mem_cons_self]
    · rw [if_neg c, if_neg c]
      omega
/-- all of them -/
theorem counts_all {out : List (Int × Int)} {T : List Int} (h : IsCounts (cntT T) out) : (out.map (·.2)).sum = ((T.length : Nat) : Int) := by
  have z := counts_kept (fun _ => true) h
  rw [List.filter_eq_self.mpr (fun _ _ => rfl), List.filter_eq_self.mpr (fun _ _ => rfl)] at z
  exact z

/-! ### a comprehension over a range, with a test -/
section
variable {K : PySem.W.Frag}
def rangeV (lo : Int) (n : Nat) : List Int := (List.range n).map fun i => lo + ((i : Nat) : Int)
theorem rangeV_snoc (lo : Int) (n : Nat) : rangeV lo (n + 1) = rangeV lo n ++ [lo + ((n : Nat) : Int)] := by
  unfold rangeV
  rw [List.range_succ, List.map_append]
  rfl
theorem rangeV_len (lo : Int) (n : Nat) : (rangeV lo n).length = n := by
  unfold rangeV
  rw [List.length_map, List.length_range]
theorem rangeV_mem {lo : Int} {n : Nat} {z : Int} : z ∈ rangeV lo n ↔ lo ≤ z ∧ z < lo + n := by
  unfold rangeV
  rw [List.mem_map]
  constructor
  · rintro ⟨i, hi, rfl⟩
    have := List.mem_range.mp hi
    omega
  · rintro ⟨h1, h2⟩
    exact ⟨(z - lo).toNat, List.mem_range.mpr (by omega), by omega⟩
theorem lr_map {g : TG} {tt : TT} {te : TE} {vs : List Nat} {σ : L2.St} {H1 : Hp} {D : Addr} {Qd : Hp → Prop} {lo : Int} {n : Nat} (keep : Int → Bool) (f : Int → V)
    (nD : H1 D = none) (len : n < 1000000)
    (hs : ∀ z H' (R : V → Hp → Prop) (N : Hp → Prop), lo ≤ z → z < lo + n → Same H1 H' → (keep z = true → ∀ H4, Same H' H4 → R (f z) H4) → (keep z = false → ∀ H4, Same H' H4 → N H4) →
      g (.int z) (wipe σ vs) H' fun σ2 H2 => wipe σ2 vs = wipe σ vs ∧ tt σ2 H2 fun b H3 => if b = true then te σ2 H3 R else N H3)
    (hd : ∀ H', Same H1 H' → H' D = some (.lst (((rangeV lo n).filter keep).map f)) → Qd H') :
    ∃ W : Nat → Nat → Hp → Prop, (∃ m, W 0 m (upd H1 D (.lst []))) ∧ ∀ i m H, W i m H →
      ((Itr lo n).stop i H ∧ Qd H) ∨ ((Itr lo n).go i H ∧ ∃ Nx : Hp → Prop, (∀ H', Nx H' → ∃ m', m' < m ∧ W (i + 1) m' H') ∧ ∀ x H', (Itr lo n).yld i H x H' → g x (wipe σ vs) H' fun σ2 H2 => wipe σ2 vs = wipe σ vs ∧ tt σ2 H2 fun b H3 =>
        if b = true then te σ2 H3 fun y H4 => ∃ acc, H4 D = some (.lst acc) ∧ acc.length < sizeLine ∧ Nx (upd H4 D (.lst (acc ++ [y]))) else Nx H3) := by
  refine lc_range (lo := lo) (n := n) (fun i H => Same H1 H ∧ H D = some (.lst (((rangeV lo i).filter keep).map f))) ⟨same_new nD, upd_same⟩ ?_ (fun H p => hd H p.1 p.2)
  intro i H hi p
  obtain ⟨p1, p2⟩ := p
  refine hs (lo + i) H _ _ (by omega) (by omega) p1 (fun kx H4 e4 => ?_) (fun kx H4 e4 => ?_)
  · refine ⟨_, e4 _ _ p2, ?_, fun b o e => ?_, ?_⟩
    · refine sz_lt (Nat.lt_of_le_of_lt ?_ len)
      rw [List.length_map]
      refine Nat.le_trans (List.length_filter_le _ _) ?_
      rw [rangeV_len]
      omega
    · rw [upd_ne (ne_of_none e nD)]
      exact e4 _ _ (p1 _ _ e)
    · rw [upd_same, rangeV_snoc, List.filter_append, List.map_append]
      simp [List.filter_cons, kx]
  · refine ⟨p1.trans e4, ?_⟩
    rw [e4 _ _ p2, rangeV_snoc, List.filter_append, List.map_append]
    simp [List.filter_cons, kx]
end
end My
namespace My
open PySem PySem.Spec PyProof.Rows L2
/-- a comprehension over rows -/
theorem lc_rows {K : PySem.W.Frag} {a : Addr} {rows : List (Addr × Int × Int)} {g : TG} {tt : TT} {te : TE} {vs : List Nat} {σ : L2.St} {H1 : Hp} {D : Addr} {Qd : Hp → Prop} (keep : Int × Int → Bool) (f : Int × Int → V)
    (nD : H1 D = none) (hS : RowsAt H1 a rows) (len : rows.length < 1000000)
    (hs : ∀ z H' (R : V → Hp → Prop) (N : Hp → Prop), z ∈ rows → Same H1 H' → H' z.1 = some (.tup [.int z.2.1, .int z.2.2]) → (keep z.2 = true → ∀ H4, Same H' H4 → R (f z.2) H4) → (keep z.2 = false → ∀ H4, Same H' H4 → N H4) →
      g (.ref z.1) (wipe σ vs) H' fun σ2 H2 => wipe σ2 vs = wipe σ vs ∧ tt σ2 H2 fun b H3 => if b = true then te σ2 H3 R else N H3)
    (hd : ∀ H', Same H1 H' → H' D = some (.lst (((rows.map (·.2)).filter keep).map f)) → Qd H') :
    ∃ W : Nat → Nat → Hp → Prop, (∃ m, W 0 m (upd H1 D (.lst []))) ∧ ∀ i m H, W i m H →
      ((Itl K a).stop i H ∧ Qd H) ∨ ((Itl K a).go i H ∧ ∃ Nx : Hp → Prop, (∀ H', Nx H' → ∃ m', m' < m ∧ W (i + 1) m' H') ∧ ∀ x H', (Itl K a).yld i H x H' → g x (wipe σ vs) H' fun σ2 H2 => wipe σ2 vs = wipe σ vs ∧ tt σ2 H2 fun b H3 =>
        if b = true then te σ2 H3 fun y H4 => ∃ acc, H4 D = some (.lst acc) ∧ acc.length < sizeLine ∧ Nx (upd H4 D (.lst (acc ++ [y]))) else Nx H3) := by
  refine lc_list (K := K) (a := a) (xs := rows.map fun z => V.ref z.1) (fun i H => Same H1 H ∧ H D = some (.lst ((((rows.take i).map (·.2)).filter keep).map f))) ⟨same_new nD, upd_same⟩ (fun i H _ p => sq_of (p.1 _ _ hS.1)) ?_ ?_
  · intro i x H hi p
    obtain ⟨p1, p2⟩ := p
    rw [List.getElem?_map] at hi
    cases hz : rows[i]? with
    | none => rw [hz] at hi; cases hi
    | some z =>
      rw [hz] at hi
      cases hi
      have hm := List.mem_of_getElem? hz
      refine hs z H _ _ hm p1 (p1 _ _ (hS.2 z hm)) (fun kx H4 e4 => ?_) (fun kx H4 e4 => ?_)
      · refine ⟨_, e4 _ _ p2, ?_, fun b o e => ?_, ?_⟩
        · refine sz_lt (Nat.lt_of_le_of_lt ?_ len)
          rw [List.length_map]
          refine Nat.le_trans (List.length_filter_le _ _) ?_
          rw [List.length_map, List.length_take]
          exact Nat.min_le_right _ _
        · rw [upd_ne (ne_of_none e nD)]
          exact e4 _ _ (p1 _ _ e)
        · rw [upd_same, take_snoc hz, List.map_append, List.filter_append, List.map_append]
          simp [List.filter_cons, kx]
      · refine ⟨p1.trans e4, ?_⟩
        rw [e4 _ _ p2, take_snoc hz, List.map_append, List.filter_append, List.map_append]
        simp [List.filter_cons, kx]
  · intro H p
    obtain ⟨p1, p2⟩ := p
    rw [List.length_map, List.take_length] at p2
    exact hd H p1 p2
end My

/-! Counts, as all throws have them: how many in all, the least and the greatest sum, all faces together, put together, lifted, falling. -/
namespace My
open PySem PySem.Spec PyProof.Rows L2
/-! ### how many -/
def throwsN (dss : List (List Int)) : Int := dss.foldl (fun m ds => m * ((ds.length : Nat) : Int)) 1
theorem throwsN_snoc (dss : List (List Int)) (ds : List Int) : throwsN (dss ++ [ds]) = throwsN dss * ((ds.length : Nat) : Int) := by
  unfold throwsN
  rw [List.foldl_append]
  rfl
theorem throws_snoc_len (dss : List (List Int)) (ds : List Int) : (throwsL (dss ++ [ds])).length = ds.length * (throwsL dss).length := by
  rw [throwsL_snoc, more1_len]
theorem rev_ind {α : Type} {P : List α → Prop} (h0 : P []) (h1 : ∀ l x, P l → P (l ++ [x])) : ∀ l, P l := by
  intro l
  rw [← List.reverse_reverse l]
  induction l.reverse with
  | nil => exact h0
  | cons x r ih =>
    rw [List.reverse_cons]
    exact h1 _ _ ih
theorem throws_many : ∀ dss : List (List Int), (((throwsL dss).length : Nat) : Int) = throwsN dss := by
  refine rev_ind rfl fun l x ih => ?_
  rw [throws_snoc_len, throwsN_snoc, ← ih, Int.natCast_mul, Int.mul_comm]
/-! ### sums of sums -/
theorem sum_shift (T : List Int) (f : Int) : (T.map (· + f)).sum = T.sum + ((T.length : Nat) : Int) * f := by
  induction T with
  | nil => simp
  | cons t r ih =>
    rw [List.map_cons, List.sum_cons, ih, List.sum_cons, List.length_cons]
    have : (((r.length + 1 : Nat)) : Int) * f = ((r.length : Nat) : Int) * f + f := by
      rw [Int.natCast_add, Int.add_mul]
      omega
    rw [this]
    omega
theorem sum_more (T : List Int) : ∀ ds : List Int, (more1 T ds).sum = ((ds.length : Nat) : Int) * T.sum + ds.sum * ((T.length : Nat) : Int)
  | [] => by simp [more1]
  | f :: r => by
    have ih := sum_more T r
    have e : more1 T (f :: r) = T.map (· + f) ++ more1 T r := by
      unfold more1
      rw [List.flatMap_cons]
    rw [e, List.sum_append, ih, sum_shift, List.sum_cons, List.length_cons, Int.natCast_add, Int.add_mul, Int.add_mul, Int.mul_comm f]
    omega
/-- what all faces bring -/
def broughtL (dss : List (List Int)) : Int := (dss.map fun ds => ds.sum * (throwsN dss / ((ds.length : Nat) : Int))).sum
theorem len_dvd : ∀ (dss : List (List Int)) {ds : List Int}, ds ∈ dss → ((ds.length : Nat) : Int) ∣ throwsN dss := by
  refine rev_ind (fun h => by cases h) fun l x ih ds h => ?_
  rw [throwsN_snoc]
  rcases List.mem_append.mp h with h | h
  · exact Int.dvd_mul_of_dvd_left (ih h)
  · rw [List.mem_singleton.mp h]
    exact Int.dvd_mul_left _ _
theorem throws_sum : ∀ dss : List (List Int), (∀ ds ∈ dss, 1 ≤ ds.length) → (throwsL dss).sum = broughtL dss := by
  refine rev_ind (fun _ => rfl) fun l x ih h => ?_
  have ihl := ih fun ds hds => h ds (List.mem_append_left _ hds)
  have hx := h x (List.mem_append_right _ (List.mem_singleton.mpr rfl))
  rw [throwsL_snoc, sum_more, ihl, throws_many]
  unfold broughtL
  rw [List.map_append, List.sum_append, throwsN_snoc]
  have e1 : (List.map (fun ds => ds.sum * (throwsN l * ((x.length : Nat) : Int) / ((ds.length : Nat) : Int))) [x]).sum = x.sum * throwsN l := by
    rw [List.map_singleton, List.sum_singleton, Int.mul_ediv_cancel _ (by omega)]
  have e2 : (l.map fun ds => ds.sum * (throwsN l * ((x.length : Nat) : Int) / ((ds.length : Nat) : Int))) = l.map fun ds => ((x.length : Nat) : Int) * (ds.sum * (throwsN l / ((ds.length : Nat) : Int))) := by
    apply List.map_congr_left
    intro ds hds
    have hd := len_dvd l hds
    have h1 := h ds (List.mem_append_left _ hds)
    rw [Int.mul_comm (throwsN l), Int.mul_ediv_assoc _ hd, Int.mul_left_comm]
  rw [e1, e2]
  have e3 : ∀ m : List (List Int), (m.map fun ds => ((x.length : Nat) : Int) * (ds.sum * (throwsN l / ((ds.length : Nat) : Int)))).sum = ((x.length : Nat) : Int) * (m.map fun ds => ds.sum * (throwsN l / ((ds.length : Nat) : Int))).sum := by
    intro m
    induction m with
    | nil => simp
    | cons d r ih2 => rw [List.map_cons, List.sum_cons, ih2, List.map_cons, List.sum_cons, Int.mul_add]
  rw [e3]
/-! ### what a list of counts brings -/
theorem sum_weight (f : Int → Int) (ks : List Int) (hn : ks.Nodup) : ∀ T : List Int, (∀ t ∈ T, t ∈ ks) → (ks.map fun k => f k * cntT T k).sum = (T.map f).sum
  | [], _ => by
    have z : (ks.map fun k => f k * cntT [] k) = ks.map fun _ => (0 : Int) := by
      apply List.map_congr_left
      intro j _
      show f j * (((([] : List Int).count j : Nat)) : Int) = 0
      simp
    rw [z, sum_zero]
    rfl
  | t :: T, h => by
    have ih := sum_weight f ks hn T fun u hu => h u (List.mem_cons_of_mem _ hu)
    have e : (ks.map fun k => f k * cntT (t :: T) k) = ks.map fun k => f k * cntT T k + (if t = k then f t else 0) := by
      apply List.map_congr_left
      intro k _
      show f k * (((t :: T).count k : Nat) : Int) = f k * ((T.count k : Nat) : Int) + _
      rw [List.count_cons]
      by_cases e : t = k
      · rw [if_pos e, e, beq_self_eq_true, if_pos rfl, Int.natCast_add, Int.mul_add]
        show _ + f k * 1 = _
        rw [Int.mul_one]
      · have e2 : (t == k) = false := beq_eq_false_iff_ne.mpr e
        rw [if_neg e, e2]
        simp
    have one : ∀ ks : List Int, ks.Nodup → t ∈ ks → (ks.map fun k => if t = k then f t else 0).sum = f t := by
      intro ks
      induction ks with
      | nil => intro _ h; cases h
      | cons k r ih2 =>
        intro hn h
        obtain ⟨h1, h2⟩ := List.nodup_cons.mp hn
        rw [List.map_cons, List.sum_cons]
        by_cases e : t = k
        · have z : (r.map fun k => if t = k then f t else 0) = r.map fun _ => (0 : Int) := by
            apply List.map_congr_left
            intro j hj
            rw [if_neg fun c => h1 (by rw [← e, c]; exact hj)]
          rw [z, sum_zero, if_pos e]
          omega
        · rw [if_neg e, ih2 h2 ((List.mem_cons.mp h).resolve_left e)]
          omega
    rw [e, sum_add, ih, one ks hn (h t List.mem_cons_self), List.map_cons, List.sum_cons]
    omega
theorem counts_nodup {out : List (Int × Int)} {g : Int → Int} (h : IsCounts g out) : (out.map (·.1)).Nodup := by
  have : out.Pairwise fun a b => a.1 ≠ b.1 := h.rise.imp fun {a b} c => by omega
  exact List.pairwise_map.mpr this
theorem counts_mem {out : List (Int × Int)} {T : List Int} (h : IsCounts (cntT T) out) {t : Int} (ht : t ∈ T) : (t, cntT T t) ∈ out := (h.mem _ _).mpr ⟨rfl, by
  have : 0 < T.count t := List.count_pos_iff.mpr ht
  show ((T.count t : Nat) : Int) ≠ 0
  omega⟩
theorem counts_thrown {out : List (Int × Int)} {T : List Int} (h : IsCounts (cntT T) out) {p : Int × Int} (hp : p ∈ out) : p.1 ∈ T := by
  have := (h.mem p.1 p.2).mp hp
  have h2 : ((T.count p.1 : Nat) : Int) ≠ 0 := by
    have e : p.2 = ((T.count p.1 : Nat) : Int) := this.1
    rw [← e]
    exact this.2
  exact List.count_pos_iff.mp (by omega)
/-- over all throws, by the counts -/
theorem counts_weight (f : Int → Int) {out : List (Int × Int)} {T : List Int} (h : IsCounts (cntT T) out) : (out.map fun p => f p.1 * p.2).sum = (T.map f).sum := by
  rw [← sum_weight f (out.map (·.1)) (counts_nodup h) T fun t ht => List.mem_map.mpr ⟨_, counts_mem h ht, rfl⟩, List.map_map]
  congr 1
  apply List.map_congr_left
  intro p hp
  rw [show p.2 = cntT T p.1 from ((h.mem p.1 p.2).mp hp).1]
  rfl
theorem counts_sum {out : List (Int × Int)} {T : List Int} (h : IsCounts (cntT T) out) : (out.map fun p => p.1 * p.2).sum = T.sum := by
  have := counts_weight (fun t => t) h
  rw [List.map_id'] at this
  exact this
/-! ### the least and the greatest -/
theorem fold_least (mn : List Int → Int) : ∀ (dss : List (List Int)) (T : List Int) (t0 : Int), (∀ ds ∈ dss, mn ds ∈ ds ∧ ∀ f ∈ ds, mn ds ≤ f) → t0 ∈ T → (∀ t ∈ T, t0 ≤ t) → t0 + (dss.map mn).sum ∈ dss.foldl more1 T ∧ ∀ t ∈ dss.foldl more1 T, t0 + (dss.map mn).sum ≤ t
  | [], T, t0, _, h0, h1 => by
    rw [List.map_nil, List.sum_nil, Int.add_zero]
    exact ⟨h0, h1⟩
  | ds :: r, T, t0, h, h0, h1 => by
    obtain ⟨m1, m2⟩ := h ds List.mem_cons_self
    have := fold_least mn r (more1 T ds) (t0 + mn ds) (fun x hx => h x (List.mem_cons_of_mem _ hx)) (List.mem_flatMap.mpr ⟨_, m1, List.mem_map.mpr ⟨_, h0, rfl⟩⟩) (fun t ht => by
      obtain ⟨f, hf, ht⟩ := List.mem_flatMap.mp ht
      obtain ⟨u, hu, rfl⟩ := List.mem_map.mp ht
      have a := h1 u hu
      have b := m2 f hf
      show t0 + mn ds ≤ u + f
      omega)
    rw [List.map_cons, List.sum_cons, ← Int.add_assoc]
    exact this
theorem fold_most (mx : List Int → Int) : ∀ (dss : List (List Int)) (T : List Int) (t0 : Int), (∀ ds ∈ dss, mx ds ∈ ds ∧ ∀ f ∈ ds, f ≤ mx ds) → t0 ∈ T → (∀ t ∈ T, t ≤ t0) → t0 + (dss.map mx).sum ∈ dss.foldl more1 T ∧ ∀ t ∈ dss.foldl more1 T, t ≤ t0 + (dss.map mx).sum
  | [], T, t0, _, h0, h1 => by
    rw [List.map_nil, List.sum_nil, Int.add_zero]
    exact ⟨h0, h1⟩
  | ds :: r, T, t0, h, h0, h1 => by
    obtain ⟨m1, m2⟩ := h ds List.mem_cons_self
    have := fold_most mx r (more1 T ds) (t0 + mx ds) (fun x hx => h x (List.mem_cons_of_mem _ hx)) (List.mem_flatMap.mpr ⟨_, m1, List.mem_map.mpr ⟨_, h0, rfl⟩⟩) (fun t ht => by
      obtain ⟨f, hf, ht⟩ := List.mem_flatMap.mp ht
      obtain ⟨u, hu, rfl⟩ := List.mem_map.mp ht
      have a := h1 u hu
      have b := m2 f hf
      show u + f ≤ t0 + mx ds
      omega)
    rw [List.map_cons, List.sum_cons, ← Int.add_assoc]
    exact this
theorem counts_least {out : List (Int × Int)} {dss : List (List Int)} {p : Int × Int} (h : IsCounts (cntF dss) out) (mn : List Int → Int) (hm : ∀ ds ∈ dss, mn ds ∈ ds ∧ ∀ f ∈ ds, mn ds ≤ f) (h0 : out[0]? = some p) : p.1 = (dss.map mn).sum := by
  rw [← cnt_throws] at h
  obtain ⟨a, b⟩ := fold_least mn dss [0] 0 hm List.mem_cons_self (fun t ht => by rw [List.mem_singleton.mp ht]; exact Int.le_refl 0)
  rw [Int.zero_add] at a b
  have h1 := b p.1 (counts_thrown h (List.mem_of_getElem? h0))
  have h2 := counts_mem h a
  cases out with
  | nil => cases h0
  | cons q r =>
    have e : q = p := Option.some.inj h0
    subst e
    rcases List.mem_cons.mp h2 with z | z
    · rw [← z]
    · have := (List.pairwise_cons.mp h.rise).1 _ z
      have : q.1 < (dss.map mn).sum := this
      omega
theorem counts_most {out : List (Int × Int)} {dss : List (List Int)} {p : Int × Int} (h : IsCounts (cntF dss) out) (mx : List Int → Int) (hm : ∀ ds ∈ dss, mx ds ∈ ds ∧ ∀ f ∈ ds, f ≤ mx ds) (h0 : out[out.length - 1]? = some p) : p.1 = (dss.map mx).sum := by
  rw [← cnt_throws] at h
  obtain ⟨a, b⟩ := fold_most mx dss [0] 0 hm List.mem_cons_self (fun t ht => by rw [List.mem_singleton.mp ht]; exact Int.le_refl 0)
  rw [Int.zero_add] at a b
  have h1 := b p.1 (counts_thrown h (List.mem_of_getElem? h0))
  have h2 := counts_mem h a
  obtain ⟨i, hi⟩ := List.mem_iff_getElem?.mp h2
  have hil := (List.getElem?_eq_some_iff.mp hi).1
  by_cases c : i = out.length - 1
  · rw [c, h0] at hi
    rw [Option.some.inj hi]
  · obtain ⟨hj, ej⟩ := List.getElem?_eq_some_iff.mp h0
    obtain ⟨hk, ek⟩ := List.getElem?_eq_some_iff.mp hi
    have := List.pairwise_iff_getElem.mp h.rise i (out.length - 1) hk hj (by omega)
    rw [ej, ek] at this
    have : (dss.map mx).sum < p.1 := this
    omega
/-! ### put together -/
def togI (t n : Int) (m others : List (Int × Int)) : List (Int × Int) := others.foldl (fun m q => addI m (t + q.1) (n * q.2)) m
def togW (rows others : List (Int × Int)) : List (Int × Int) := rows.foldl (fun m p => togI p.1 p.2 m others) []
theorem togI_snoc (t n : Int) (m others : List (Int × Int)) (q : Int × Int) : togI t n m (others ++ [q]) = addI (togI t n m others) (t + q.1) (n * q.2) := by
  unfold togI
  rw [List.foldl_append]
  rfl
theorem togW_snoc (rows : List (Int × Int)) (p : Int × Int) (others : List (Int × Int)) : togW (rows ++ [p]) others = togI p.1 p.2 (togW rows others) others := by
  unfold togW
  rw [List.foldl_append]
  rfl
theorem togI_look (t n : Int) (s : Int) : ∀ (others m : List (Int × Int)), lookI (togI t n m others) s = lookI m s + (others.map fun q => if s = t + q.1 then n * q.2 else 0).sum
  | [], m => by
    show lookI m s = lookI m s + 0
    omega
  | q :: r, m => by
    have ih := togI_look t n s r (addI m (t + q.1) (n * q.2))
    show lookI (togI t n (addI m (t + q.1) (n * q.2)) r) s = _
    rw [ih, look_add, List.map_cons, List.sum_cons]
    omega
theorem togI_nd (t n : Int) : ∀ (others m : List (Int × Int)), (m.map (·.1)).Nodup → ((togI t n m others).map (·.1)).Nodup
  | [], m, h => h
  | q :: r, m, h => togI_nd t n r _ (nodup_put _ _ h)
theorem togI_pos {t n : Int} (hn : 0 < n) : ∀ (others m : List (Int × Int)), (∀ p ∈ others, 0 < p.2) → (∀ p ∈ m, 0 < p.2) → ∀ p ∈ togI t n m others, 0 < p.2
  | [], m, _, h => h
  | q :: r, m, ho, h => togI_pos hn r _ (fun p hp => ho p (List.mem_cons_of_mem _ hp)) (pos_add (Int.mul_pos hn (ho q List.mem_cons_self)) h)
theorem togI_len (t n : Int) : ∀ (others m : List (Int × Int)), (togI t n m others).length ≤ m.length + others.length
  | [], m => Nat.le_refl _
  | q :: r, m => by
    have ih := togI_len t n r (addI m (t + q.1) (n * q.2))
    have h := len_put m (t + q.1) (lookI m (t + q.1) + n * q.2)
    have e : togI t n m (q :: r) = togI t n (addI m (t + q.1) (n * q.2)) r := rfl
    have e2 : (addI m (t + q.1) (n * q.2)).length ≤ m.length + 1 := h
    rw [e, List.length_cons]
    omega
theorem togF_look (others : List (Int × Int)) (s : Int) : ∀ (rows m : List (Int × Int)), lookI (rows.foldl (fun m p => togI p.1 p.2 m others) m) s = lookI m s + (rows.map fun p => (others.map fun q => if s = p.1 + q.1 then p.2 * q.2 else 0).sum).sum
  | [], m => by
    show lookI m s = lookI m s + 0
    omega
  | p :: r, m => by
    have ih := togF_look others s r (togI p.1 p.2 m others)
    show lookI (r.foldl (fun m p => togI p.1 p.2 m others) (togI p.1 p.2 m others)) s = _
    rw [ih, togI_look, List.map_cons, List.sum_cons]
    omega
theorem togF_nd (others : List (Int × Int)) : ∀ (rows m : List (Int × Int)), (m.map (·.1)).Nodup → ((rows.foldl (fun m p => togI p.1 p.2 m others) m).map (·.1)).Nodup
  | [], _, h => h
  | p :: r, m, h => togF_nd others r _ (togI_nd _ _ _ _ h)
theorem togF_pos (others : List (Int × Int)) (ho : ∀ p ∈ others, 0 < p.2) : ∀ (rows m : List (Int × Int)), (∀ p ∈ rows, 0 < p.2) → (∀ p ∈ m, 0 < p.2) → ∀ p ∈ rows.foldl (fun m p => togI p.1 p.2 m others) m, 0 < p.2
  | [], _, _, h => h
  | p :: r, m, hr, h => togF_pos others ho r _ (fun q hq => hr q (List.mem_cons_of_mem _ hq)) (togI_pos (hr p List.mem_cons_self) _ _ ho h)
theorem togF_len (others : List (Int × Int)) : ∀ (rows m : List (Int × Int)), (rows.foldl (fun m p => togI p.1 p.2 m others) m).length ≤ m.length + rows.length * others.length
  | [], m => by simp
  | p :: r, m => by
    have ih := togF_len others r (togI p.1 p.2 m others)
    have h := togI_len p.1 p.2 others m
    show (r.foldl (fun m p => togI p.1 p.2 m others) (togI p.1 p.2 m others)).length ≤ _
    rw [List.length_cons, Nat.succ_mul]
    omega
theorem togW_len (rows others : List (Int × Int)) : (togW rows others).length ≤ rows.length * others.length := by
  have := togF_len others rows []
  rw [List.length_nil, Nat.zero_add] at this
  exact this
theorem tog_part (rows others : List (Int × Int)) (i j : Nat) (p : Int × Int) (h : rows[i]? = some p) (hj : j < others.length) : (togI p.1 p.2 (togW (rows.take i) others) (others.take j)).length < rows.length * others.length := by
  have h1 := togI_len p.1 p.2 (others.take j) (togW (rows.take i) others)
  have h2 := togW_len (rows.take i) others
  have h3 : i < rows.length := (List.getElem?_eq_some_iff.mp h).1
  rw [List.length_take, Nat.min_eq_left (Nat.le_of_lt h3)] at h2
  rw [List.length_take, Nat.min_eq_left (Nat.le_of_lt hj)] at h1
  have h4 : (i + 1) * others.length ≤ rows.length * others.length := Nat.mul_le_mul_right _ h3
  rw [Nat.succ_mul] at h4
  omega
theorem counts_pos {out : List (Int × Int)} {T : List Int} (h : IsCounts (cntT T) out) : ∀ p ∈ out, 0 < p.2 := fun p hp => by
  obtain ⟨a, b⟩ := (h.mem p.1 p.2).mp hp
  have e : p.2 = ((T.count p.1 : Nat) : Int) := a
  omega
theorem counts_look {out : List (Int × Int)} {T : List Int} (h : IsCounts (cntT T) out) (s : Int) : (out.map fun q => if q.1 = s then q.2 else 0).sum = cntT T s := by
  have := sum_look s (counts_nodup h)
  rw [this]
  by_cases c : s ∈ T
  · exact look_mem (counts_nodup h) (counts_mem h c)
  · have z : cntT T s = 0 := by
      show ((T.count s : Nat) : Int) = 0
      rw [List.count_eq_zero.mpr c]
      rfl
    rw [z]
    cases Decidable.em (lookI out s = 0) with
    | inl e => exact e
    | inr e => exact absurd (counts_thrown h (look_ne_mem e)) c
theorem tells_together {rows others : List (Int × Int)} {T U : List Int} (h1 : IsCounts (cntT T) rows) (h2 : IsCounts (cntT U) others) : Tells (togW rows others) (conv (cntT U) T) where
  nd := togF_nd others rows [] List.nodup_nil
  look := fun s => by
    unfold togW
    rw [togF_look]
    show 0 + _ = (T.map fun f => cntT U (s - f)).sum
    rw [← counts_weight (fun f => cntT U (s - f)) h1, Int.zero_add]
    congr 1
    apply List.map_congr_left
    intro p _
    show _ = cntT U (s - p.1) * p.2
    rw [← counts_look h2, Int.mul_comm]
    generalize others = l
    induction l with
    | nil => simp
    | cons q r ih =>
      rw [List.map_cons, List.sum_cons, ih, List.map_cons, List.sum_cons, Int.mul_add]
      congr 1
      by_cases c : s = p.1 + q.1
      · rw [if_pos c, if_pos (by omega)]
      · rw [if_neg c, if_neg (by omega), Int.mul_zero]
  pos := togF_pos others (counts_pos h2) rows [] (counts_pos h1) (fun p h => by cases h)
theorem throws_one (d : List Int) : throwsL [d] = d := by
  show (d.flatMap fun f => [0].map (· + f)) = d
  induction d with
  | nil => rfl
  | cons f r ih =>
    rw [List.flatMap_cons, ih]
    show (0 + f) :: r = f :: r
    rw [Int.zero_add]
/-- the first die's counts and the others' -/
theorem together_all {d : List Int} {dr : List (List Int)} {rows others : List (Int × Int)} (h1 : IsCounts (cntF [d]) rows) (h2 : IsCounts (cntF dr) others) : Tells (togW rows others) (cntF (d :: dr)) := by
  rw [← cnt_throws] at h1 h2
  have := tells_together h1 h2
  rw [throws_one, cnt_throws] at this
  have e : conv (cntF dr) d = cntF (d :: dr) := by
    have e1 : conv (cntF dr) d = cntF (dr ++ [d]) := by
      unfold cntF
      rw [List.foldl_append]
      rfl
    rw [e1]
    exact cntF_perm (List.perm_append_comm (l₁ := dr) (l₂ := [d]))
  rw [← e]
  exact this
/-! ### lifted -/
theorem conv_lift {g g' : Int → Int} {l : Int} (h : ∀ s, g' s = g (s - l)) (ds : List Int) : ∀ s, conv g' ds s = conv g ds (s - l) := fun s => by
  unfold conv
  congr 1
  apply List.map_congr_left
  intro f _
  rw [h]
  congr 1
  omega
theorem fold_lift {l : Int} : ∀ (dss : List (List Int)) {g g' : Int → Int}, (∀ s, g' s = g (s - l)) → ∀ s, dss.foldl conv g' s = dss.foldl conv g (s - l)
  | [], _, _, h => h
  | ds :: r, _, _, h => fold_lift r (conv_lift h ds)
theorem counts_lift {d : List Int} {dr : List (List Int)} {l : Int} {out : List (Int × Int)} (h : IsCounts (cntF (d :: dr)) out) : IsCounts (cntF (d.map (· + l) :: dr)) (out.map fun p => (p.1 + l, p.2)) := by
  have e : ∀ s, cntF (d.map (· + l) :: dr) s = cntF (d :: dr) (s - l) := by
    refine fold_lift dr (g := conv cnt0 d) (g' := conv cnt0 (d.map (· + l))) fun s => ?_
    unfold conv
    rw [List.map_map]
    congr 1
    apply List.map_congr_left
    intro f _
    show cnt0 (s - (f + l)) = cnt0 (s - l - f)
    congr 1
    omega
  refine ⟨List.pairwise_map.mpr (h.rise.imp fun {a b} c => by show a.1 + l < b.1 + l; omega), fun s n => ?_⟩
  rw [e, ← h.mem]
  constructor
  · intro hm
    obtain ⟨p, hp, ep⟩ := List.mem_map.mp hm
    cases ep
    show (p.1 + l - l, p.2) ∈ out
    rw [Int.add_sub_cancel]
    exact hp
  · intro hm
    exact List.mem_map.mpr ⟨_, hm, by show (s - l + l, n) = (s, n); rw [Int.sub_add_cancel]⟩
/-! ### falling -/
theorem filter_rise {out : List (Int × Int)} (h : out.Pairwise fun a b => a.1 < b.1) {i : Nat} {p : Int × Int} (hi : out[i]? = some p) : (out.filter fun q => decide (p.1 ≤ q.1)) = out.drop i ∧ (out.filter fun q => decide (p.1 + 1 ≤ q.1)) = out.drop (i + 1) := by
  induction out generalizing i with
  | nil => cases hi
  | cons q r ih =>
    obtain ⟨h1, h2⟩ := List.pairwise_cons.mp h
    cases i with
    | zero =>
      have e : q = p := Option.some.inj hi
      subst e
      have a1 : (r.filter fun x => decide (q.1 ≤ x.1)) = r := List.filter_eq_self.mpr fun x hx => decide_eq_true (by have := h1 x hx; omega)
      have a2 : (r.filter fun x => decide (q.1 + 1 ≤ x.1)) = r := List.filter_eq_self.mpr fun x hx => decide_eq_true (by have := h1 x hx; omega)
      constructor
      · rw [List.filter_cons, if_pos (decide_eq_true (Int.le_refl _)), a1]
        rfl
      · rw [List.filter_cons, if_neg (by rw [decide_eq_true_eq]; omega), a2]
        rfl
    | succ j =>
      have hj : r[j]? = some p := hi
      have hq := h1 p (List.mem_of_getElem? hj)
      obtain ⟨b1, b2⟩ := ih h2 hj
      constructor
      · rw [List.filter_cons, if_neg (by rw [decide_eq_true_eq]; omega), b1]
        rfl
      · rw [List.filter_cons, if_neg (by rw [decide_eq_true_eq]; omega), b2]
        rfl
theorem counts_left {out : List (Int × Int)} {T : List Int} (h : IsCounts (cntT T) out) {i : Nat} {p : Int × Int} (hi : out[i]? = some p) :
    (((T.filter fun s => decide (p.1 ≤ s)).length : Nat) : Int) = ((T.length : Nat) : Int) - ((out.take i).map (·.2)).sum ∧ (((T.filter fun s => decide (p.1 + 1 ≤ s)).length : Nat) : Int) = ((T.length : Nat) : Int) - ((out.take (i + 1)).map (·.2)).sum := by
  obtain ⟨a, b⟩ := filter_rise h.rise hi
  have k1 := counts_kept (fun s => decide (p.1 ≤ s)) h
  have k2 := counts_kept (fun s => decide (p.1 + 1 ≤ s)) h
  have all := counts_all h
  have e1 : ((out.filter fun q => decide (p.1 ≤ q.1)).map (·.2)).sum = (((T.filter fun s => decide (p.1 ≤ s)).length : Nat) : Int) := k1
  have e2 : ((out.filter fun q => decide (p.1 + 1 ≤ q.1)).map (·.2)).sum = (((T.filter fun s => decide (p.1 + 1 ≤ s)).length : Nat) : Int) := k2
  have s : ∀ j, ((out.take j).map (·.2)).sum + ((out.drop j).map (·.2)).sum = (out.map (·.2)).sum := fun j => by
    rw [← List.sum_append, ← List.map_append, List.take_append_drop]
  have s1 := s i
  have s2 := s (i + 1)
  rw [a] at e1
  rw [b] at e2
  constructor
  · omega
  · omega
/-! ### above, below, alike -/
def aboveN (ds es : List Int) : Int := (ds.map fun f => (((es.filter fun g => decide (g < f)).length : Nat) : Int)).sum
def alikeN (ds es : List Int) : Int := (ds.map fun f => ((es.count f : Nat) : Int)).sum
theorem three_ways (f : Int) : ∀ es : List Int, (((es.filter fun g => decide (g < f)).length : Nat) : Int) + ((es.count f : Nat) : Int) + (es.map fun g => if f < g then (1 : Int) else 0).sum = ((es.length : Nat) : Int)
  | [] => rfl
  | g :: r => by
    have ih := three_ways f r
    rw [List.filter_cons, List.count_cons, List.map_cons, List.sum_cons, List.length_cons]
    by_cases c1 : g < f
    · rw [if_pos (decide_eq_true c1), List.length_cons, if_neg (by omega : ¬ f < g)]
      have : (g == f) = false := beq_eq_false_iff_ne.mpr (by omega)
      rw [this]
      simp only [Bool.false_eq_true, if_false]
      omega
    · rw [if_neg (by rw [decide_eq_true_eq]; exact c1)]
      by_cases c2 : g = f
      · rw [if_neg (by omega : ¬ f < g), c2, beq_self_eq_true, if_pos rfl]
        omega
      · have : (g == f) = false := beq_eq_false_iff_ne.mpr c2
        rw [if_pos (by omega : f < g), this]
        simp only [Bool.false_eq_true, if_false]
        omega
theorem filter_ones (es : List Int) (f : Int) : (((es.filter fun g => decide (g < f)).length : Nat) : Int) = (es.map fun g => if g < f then (1 : Int) else 0).sum := by
  induction es with
  | nil => rfl
  | cons g r ih =>
    rw [List.filter_cons, List.map_cons, List.sum_cons, ← ih]
    by_cases c : g < f
    · rw [if_pos (decide_eq_true c), if_pos c, List.length_cons]
      omega
    · rw [if_neg (by rw [decide_eq_true_eq]; exact c), if_neg c]
      omega
theorem whole_ways (ds es : List Int) : alikeN ds es + aboveN ds es + aboveN es ds = ((ds.length : Nat) : Int) * ((es.length : Nat) : Int) := by
  have e : aboveN es ds = (ds.map fun f => (es.map fun g => if f < g then (1 : Int) else 0).sum).sum := by
    unfold aboveN
    rw [sum_swap (fun f g => if f < g then (1 : Int) else 0) es ds]
    congr 1
    apply List.map_congr_left
    intro f _
    exact filter_ones ds f
  rw [e]
  unfold alikeN aboveN
  rw [← sum_add, ← sum_add]
  have : (ds.map fun f => ((es.count f : Nat) : Int) + (((es.filter fun g => decide (g < f)).length : Nat) : Int) + (es.map fun g => if f < g then (1 : Int) else 0).sum) = ds.map fun _ => ((es.length : Nat) : Int) := by
    apply List.map_congr_left
    intro f _
    have := three_ways f es
    omega
  rw [this]
  clear this e
  induction ds with
  | nil => simp
  | cons d r ih =>
    rw [List.map_cons, List.sum_cons, ih, List.length_cons, Int.natCast_add, Int.add_mul]
    omega
end My

/-! min of a list of data that have an order (lists of whole numbers, too): the first of the least, the very item. -/
namespace My
open PySem PySem.Spec PyProof.Rows L2
section
open PySem.W (Datum DatumOrd)
variable {α : Type} [DecidableEq α] [DatumOrd α] {K : PySem.W.Frag} {H : Hp}
def rLeast (α : Type) [DecidableEq α] [DatumOrd α] (K : PySem.W.Frag) : List V → Hp → VK → Prop := fun vs H Q => ∃ (a : Addr) (xs : List V) (d : α) (ds : List α), vs = [.ref a] ∧ SqL K H a xs ∧ IsAll K H xs (d :: ds) ∧ Datum.depth α ≤ 60 ∧
  ∀ (i : Nat) (x : V), xs[i]? = some x → (d :: ds)[i]? = some (PySem.W.minOf d ds) → Q x H
theorem fold_datum (d : α) (ds : List α) : (ds.map (Datum.toD (α := α))).foldl (fun a y => if PySem.W.dataLt y a then y else a) (Datum.toD d) = Datum.toD (PySem.W.minOf d ds) := PySem.W.minD_map d ds
theorem toD_inj {a b : α} (h : Datum.toD a = Datum.toD b) : a = b := by
  have e1 : PyData.eqv (Datum.toD a) (Datum.toD b) = decide (a = b) := Datum.eqv a b
  have e2 : PyData.eqv (Datum.toD a) (Datum.toD a) = decide (a = a) := Datum.eqv a a
  rw [← h, e2] at e1
  rw [decide_eq_true rfl] at e1
  exact of_decide_eq_true e1.symm
theorem cr_least {X : Cx} (hc : X.calm = true) (hu : X.A.units + 64 < cLine) : CallR X (.builtin "min") (rLeast α X.K) := by
  intro pins s σ H vs us Q I r h
  obtain ⟨a, xs, d, ds, rfl, hs, hall, hdep, q⟩ := h
  obtain ⟨its, rv, hl, _⟩ := I.list hs
  rw [Vals.ref1 r]
  obtain ⟨as, hr⟩ := Dp.readsAll I _ xs its hall.dp rv
  have hr2 : ReadsAll s.heap its.toArray.toList ((d :: ds).map Datum.toD) as := hr
  have hlen : its.toArray.size = (d :: ds).length := by
    have := PySem.W.readsAll_len hr2
    rw [List.length_map] at this
    exact this
  have hroom : X.A.units + 1 + PyData.depthAll ((d :: ds).map Datum.toD) < cLine := by
    have := PySem.W.depthAll_map (d :: ds)
    omega
  refine PySem.call_min_walkH (PySem.W.iter_listW (A := X.A.in1) (I.ok.hd hc) hl.isList fun s₂ e W st hfp hw hk => ?_)
  refine ⟨_, _, _, _, _, _, _, s.heap, _, rfl, W, st, hfp, by rw [hlen, List.length_cons]; omega, hw, hk, PySem.W.cmpIn_lt (A := X.A.in1) hr2 (PySem.W.alikeAll_datum (d :: ds)) hroom, fun v s' hP m => ?_⟩
  obtain ⟨h', tk, rfl, hk'⟩ := PySem.W.moved_old e rfl m
  have hb := PySem.W.argBest_fold PySem.W.dataLt PyData.none (Datum.toD d) (ds.map Datum.toD) ds.length (by rw [List.length_map]; exact Nat.le_refl _)
  have hn : its.toArray.size - 1 = ds.length := by rw [hlen, List.length_cons]; omega
  have hP2 : its[argBest (fun i j => PySem.W.dataLt (((d :: ds).map Datum.toD).getD i .none) (((d :: ds).map Datum.toD).getD j .none)) ds.length]? = some v := by
    have := hP
    rw [hn] at this
    simpa using this
  have hb1 := hb.1
  have hb2 := hb.2
  rw [List.take_of_length_le (by rw [List.length_map]; exact Nat.le_refl _), fold_datum] at hb2
  generalize hi : argBest (fun i j => PySem.W.dataLt (((d :: ds).map Datum.toD).getD i .none) (((d :: ds).map Datum.toD).getD j .none)) ds.length = i at *
  have hi2 : argBest (fun i j => PySem.W.dataLt ((Datum.toD d :: ds.map Datum.toD).getD i PyData.none) ((Datum.toD d :: ds.map Datum.toD).getD j PyData.none)) ds.length = i := hi
  rw [hi2] at hb1 hb2
  have hlt : i < (d :: ds).length := by rw [List.length_cons]; omega
  have hxl : xs.length = its.length := rv.length
  have hil : i < xs.length := by
    rw [hxl]
    exact (List.getElem?_eq_some_iff.mp hP2).1
  obtain ⟨u, hu1, hu2⟩ := rv.get (List.getElem?_eq_getElem hil)
  rw [hP2] at hu1
  cases hu1
  refine ⟨xs[i], H, I.kept hk', hu2, q i _ (List.getElem?_eq_getElem hil) ?_⟩
  rw [List.getElem?_eq_getElem hlt]
  congr 1
  apply toD_inj
  rw [← hb2, List.getD_eq_getElem?_getD]
  show _ = (((d :: ds).map Datum.toD)[i]?).getD PyData.none
  rw [List.getElem?_map, List.getElem?_eq_getElem hlt]
  rfl
end
/-! ### lists of whole numbers, by their first difference -/
def lxL : List Int → List Int → Bool
  | [], [] => false
  | [], _ :: _ => true
  | _ :: _, [] => false
  | x :: xs, y :: ys => if x = y then lxL xs ys else decide (x < y)
theorem lxL_is : ∀ a b : List Int, PySem.W.DatumOrd.lt a b = lxL a b
  | [], [] => rfl
  | [], _ :: _ => rfl
  | _ :: _, [] => rfl
  | x :: xs, y :: ys => by
    have ih := lxL_is xs ys
    show (if x = y then PySem.W.listLt xs ys else decide (x < y)) = if x = y then lxL xs ys else decide (x < y)
    rw [show PySem.W.listLt xs ys = lxL xs ys from ih]
theorem lxL_irr : ∀ a : List Int, lxL a a = false
  | [] => rfl
  | x :: r => by
    show (if x = x then lxL r r else decide (x < x)) = false
    rw [if_pos rfl, lxL_irr r]
theorem lxL_trans : ∀ {a b c : List Int}, lxL a b = true → lxL b c = true → lxL a c = true
  | [], [], _, h, _ => by cases h
  | [], _ :: _, [], _, h => by cases h
  | [], _ :: _, _ :: _, _, _ => rfl
  | _ :: _, [], _, h, _ => by cases h
  | _ :: _, _ :: _, [], _, h => by cases h
  | x :: a, y :: b, z :: c, h1, h2 => by
    have h1' : (if x = y then lxL a b else decide (x < y)) = true := h1
    have h2' : (if y = z then lxL b c else decide (y < z)) = true := h2
    show (if x = z then lxL a c else decide (x < z)) = true
    by_cases e1 : x = y
    · rw [if_pos e1] at h1'
      by_cases e2 : y = z
      · rw [if_pos e2] at h2'
        rw [if_pos (e1.trans e2)]
        exact lxL_trans h1' h2'
      · rw [if_neg e2] at h2'
        have := of_decide_eq_true h2'
        rw [if_neg (by omega)]
        exact decide_eq_true (by omega)
    · rw [if_neg e1] at h1'
      have l1 := of_decide_eq_true h1'
      by_cases e2 : y = z
      · rw [if_neg (by omega)]
        exact decide_eq_true (by omega)
      · rw [if_neg e2] at h2'
        have := of_decide_eq_true h2'
        rw [if_neg (by omega)]
        exact decide_eq_true (by omega)
theorem lxL_total : ∀ {a b : List Int}, lxL a b = false → lxL b a = false → a = b
  | [], [], _, _ => rfl
  | [], _ :: _, h, _ => by cases h
  | _ :: _, [], _, h => by cases h
  | x :: a, y :: b, h1, h2 => by
    have h1' : (if x = y then lxL a b else decide (x < y)) = false := h1
    have h2' : (if y = x then lxL b a else decide (y < x)) = false := h2
    by_cases e : x = y
    · rw [if_pos e] at h1'
      rw [if_pos e.symm] at h2'
      rw [e, lxL_total h1' h2']
    · rw [if_neg e] at h1'
      rw [if_neg fun z => e z.symm] at h2'
      have a1 := of_decide_eq_false h1'
      have a2 := of_decide_eq_false h2'
      exact absurd (show x = y by omega) e
theorem minOf_mem : ∀ (ds : List (List Int)) (d : List Int), PySem.W.minOf d ds ∈ d :: ds
  | [], d => List.mem_cons_self
  | y :: r, d => by
    have ih := minOf_mem r (if PySem.W.DatumOrd.lt y d = true then y else d)
    have e : PySem.W.minOf d (y :: r) = PySem.W.minOf (if PySem.W.DatumOrd.lt y d = true then y else d) r := rfl
    rw [e]
    rcases List.mem_cons.mp ih with h | h
    · rw [h]
      split
      · exact List.mem_cons_of_mem _ List.mem_cons_self
      · exact List.mem_cons_self
    · exact List.mem_cons_of_mem _ (List.mem_cons_of_mem _ h)
theorem minOf_le : ∀ (ds : List (List Int)) (d : List Int), ∀ e ∈ d :: ds, lxL e (PySem.W.minOf d ds) = false
  | [], d, e, h => by
    rw [List.mem_singleton.mp h]
    exact lxL_irr d
  | y :: r, d, e, h => by
    have ih := minOf_le r (if PySem.W.DatumOrd.lt y d = true then y else d)
    have eq : PySem.W.minOf d (y :: r) = PySem.W.minOf (if PySem.W.DatumOrd.lt y d = true then y else d) r := rfl
    rw [eq]
    generalize PySem.W.minOf (if PySem.W.DatumOrd.lt y d = true then y else d) r = m at *
    rw [lxL_is] at ih
    rcases List.mem_cons.mp h with h | h
    · subst h
      have i0 := ih _ List.mem_cons_self
      by_cases c : lxL y e = true
      · rw [if_pos c] at i0
        cases z : lxL e m with
        | false => rfl
        | true => rw [lxL_trans c z] at i0; cases i0
      · rw [if_neg c] at i0
        exact i0
    · rcases List.mem_cons.mp h with h | h
      · subst h
        have i0 := ih _ List.mem_cons_self
        by_cases c : lxL e d = true
        · rw [if_pos c] at i0
          exact i0
        · rw [if_neg c] at i0
          cases z : lxL e m with
          | false => rfl
          | true =>
            by_cases e2 : e = d
            · rw [e2, i0] at z
              cases z
            · by_cases c2 : lxL d e = true
              · rw [lxL_trans c2 z] at i0
                cases i0
              · exact absurd (lxL_total (Bool.eq_false_iff.mpr c) (Bool.eq_false_iff.mpr c2)) e2
      · exact ih e (List.mem_cons_of_mem _ h)
end My

/-! Rings and ranks, as facts on any relation of places: where none is free there is a ring, where there is a ring no ranks. -/
namespace My
open PySem PySem.Spec PyProof.Rows L2
section
variable {b : Int → Int → Bool}
/-- each beats the next one -/
def Chn (b : Int → Int → Bool) : List Int → Prop
  | [] => True
  | [_] => True
  | x :: y :: r => b x y = true ∧ Chn b (y :: r)
theorem Chn.tail {x : Int} {r : List Int} (h : Chn b (x :: r)) : Chn b r := by
  cases r with
  | nil => trivial
  | cons y r => exact h.2
/-- two rows, one behind the other -/
theorem chn_append : ∀ {l m : List Int}, Chn b (l ++ m) ↔ Chn b l ∧ Chn b m ∧ ∀ x y, l.getLast? = some x → m.head? = some y → b x y = true
  | [], m => by
    constructor
    · intro h
      exact ⟨trivial, h, fun x y h => by cases h⟩
    · rintro ⟨_, h, _⟩
      exact h
  | [x], m => by
    cases m with
    | nil => exact ⟨fun h => ⟨trivial, trivial, fun x y _ h => by cases h⟩, fun _ => trivial⟩
    | cons y r =>
      constructor
      · rintro ⟨h1, h2⟩
        exact ⟨trivial, h2, fun u v hu hv => by cases hu; cases hv; exact h1⟩
      · rintro ⟨_, h2, h3⟩
        exact ⟨h3 x y rfl rfl, h2⟩
  | x :: y :: r, m => by
    have ih := chn_append (l := y :: r) (m := m)
    have e : (x :: y :: r).getLast? = (y :: r).getLast? := by rw [List.getLast?_cons_cons]
    rw [e]
    constructor
    · rintro ⟨h1, h2⟩
      obtain ⟨a, c, d⟩ := ih.mp h2
      exact ⟨⟨h1, a⟩, c, d⟩
    · rintro ⟨⟨h1, h2⟩, h3, h4⟩
      exact ⟨h1, ih.mpr ⟨h2, h3, h4⟩⟩
/-- a row of unlike places cannot be longer than what it is taken from -/
theorem nodup_len : ∀ {p S : List Int}, p.Nodup → (∀ x ∈ p, x ∈ S) → p.length ≤ S.length
  | [], S, _, _ => Nat.zero_le _
  | x :: r, S, hn, hs => by
    obtain ⟨h1, h2⟩ := List.nodup_cons.mp hn
    obtain ⟨s, t, e⟩ := List.append_of_mem (hs x List.mem_cons_self)
    have ih := nodup_len (p := r) (S := s ++ t) h2 fun y hy => by
      have := hs y (List.mem_cons_of_mem _ hy)
      rw [e] at this
      rcases List.mem_append.mp this with z | z
      · exact List.mem_append_left _ z
      · rcases List.mem_cons.mp z with z | z
        · exact absurd (z ▸ hy) h1
        · exact List.mem_append_right _ z
    rw [e, List.length_append, List.length_cons]
    rw [List.length_append] at ih
    rw [List.length_cons]
    omega
/-- a ring, told from any of its places -/
structure Cyc (b : Int → Int → Bool) (S c : List Int) : Prop where
  ne : c ≠ []
  nd : c.Nodup
  inn : ∀ x ∈ c, x ∈ S
  chn : Chn b c
  shut : ∀ h l, c.head? = some h → c.getLast? = some l → b l h = true
theorem walk_back {S : List Int} (irr : ∀ x, b x x = false) (hS : ∀ x ∈ S, ∃ y ∈ S, b y x = true) : ∀ (m : Nat) (x : Int) (r : List Int), (x :: r).Nodup → (∀ z ∈ x :: r, z ∈ S) → Chn b (x :: r) → S.length ≤ m + (x :: r).length → ∃ c, Cyc b S c
  | m, x, r, hn, hs, hc, hm => by
    obtain ⟨y, hy, hyx⟩ := hS x (hs x List.mem_cons_self)
    by_cases hin : y ∈ x :: r
    · obtain ⟨s, t, e⟩ := List.append_of_mem hin
      have ec : x :: r = (s ++ [y]) ++ t := by rw [e, List.append_assoc]; rfl
      have hc2 := hc
      rw [ec] at hc2
      have hn2 := hn
      rw [ec] at hn2
      refine ⟨s ++ [y], ?_, (List.nodup_append.mp hn2).1, fun z hz => hs z (by rw [ec]; exact List.mem_append_left _ hz), (chn_append.mp hc2).1, fun h l hh hl => ?_⟩
      · intro z
        have := congrArg List.length z
        rw [List.length_append] at this
        simp at this
      · have e1 : h = x := by
          have : (x :: r).head? = some h := by
            rw [ec]
            cases s with
            | nil => exact hh
            | cons u s => exact hh
          exact (Option.some.inj this).symm
        have e2 : l = y := by
          rw [List.getLast?_append] at hl
          exact (Option.some.inj hl).symm
        rw [e1, e2]
        exact hyx
    · have hn3 : (y :: x :: r).Nodup := List.nodup_cons.mpr ⟨hin, hn⟩
      have hs3 : ∀ z ∈ y :: x :: r, z ∈ S := fun z hz => by
        rcases List.mem_cons.mp hz with e | hz
        · rw [e]; exact hy
        · exact hs z hz
      have hl := nodup_len hn3 hs3
      cases m with
      | zero =>
        rw [List.length_cons] at hl
        omega
      | succ m => exact walk_back irr hS m y (x :: r) hn3 hs3 ⟨hyx, hc⟩ (by rw [List.length_cons (a := y)]; omega)
theorem cyc_of_stuck {S : List Int} (irr : ∀ x, b x x = false) (ne : S ≠ []) (hS : ∀ x ∈ S, ∃ y ∈ S, b y x = true) : ∃ c, Cyc b S c := by
  cases S with
  | nil => exact absurd rfl ne
  | cons x r => exact walk_back irr hS (x :: r).length x [] (List.nodup_cons.mpr ⟨by simp, List.nodup_nil⟩) (fun z hz => by rw [List.mem_singleton.mp hz]; exact List.mem_cons_self) trivial (by omega)
theorem Cyc.three {S c : List Int} (irr : ∀ x, b x x = false) (asy : ∀ x y, b x y = true → b y x = false) (h : Cyc b S c) : 3 ≤ c.length := by
  match c, h with
  | [], h => exact absurd rfl h.ne
  | [x], h =>
    have := h.shut x x rfl rfl
    rw [irr] at this
    cases this
  | [x, y], h =>
    have h1 := h.shut x y rfl rfl
    have h2 : b x y = true := h.chn.1
    rw [asy _ _ h2] at h1
    cases h1
  | x :: y :: z :: r, h => simp
/-- each one of a ring is beaten by one of it -/
theorem Cyc.beaten {S c : List Int} (h : Cyc b S c) {x : Int} (hx : x ∈ c) : ∃ y ∈ c, b y x = true := by
  obtain ⟨s, t, e⟩ := List.append_of_mem hx
  cases hs : s.getLast? with
  | none =>
    have : s = [] := List.getLast?_eq_none_iff.mp hs
    subst this
    have e' : c = x :: t := e
    have hl : ∃ l, c.getLast? = some l := by
      cases hc : c.getLast? with
      | none => exact absurd (List.getLast?_eq_none_iff.mp hc) h.ne
      | some l => exact ⟨l, rfl⟩
    obtain ⟨l, hl⟩ := hl
    exact ⟨l, List.mem_of_getLast? hl, h.shut x l (by rw [e']; rfl) hl⟩
  | some y =>
    have hc := h.chn
    rw [e] at hc
    exact ⟨y, by rw [e]; exact List.mem_append_left _ (List.mem_of_getLast? hs), (chn_append.mp hc).2.2 y x hs rfl⟩
/-- told from another place -/
theorem Cyc.turn {S s t : List Int} (h : Cyc b S (s ++ t)) : Cyc b S (t ++ s) where
  ne := fun z => h.ne (by
    have := congrArg List.length z
    rw [List.length_append, List.length_nil] at this
    refine List.eq_nil_of_length_eq_zero ?_
    rw [List.length_append]
    omega)
  nd := (List.perm_append_comm.nodup_iff).mp h.nd
  inn := fun x hx => h.inn x (by
    rcases List.mem_append.mp hx with z | z
    · exact List.mem_append_right _ z
    · exact List.mem_append_left _ z)
  chn := by
    obtain ⟨a, c, d⟩ := chn_append.mp h.chn
    refine chn_append.mpr ⟨c, a, fun x y hx hy => ?_⟩
    refine h.shut y x ?_ ?_
    · rw [List.head?_append, hy]
      rfl
    · rw [List.getLast?_append, hx]
      rfl
  shut := fun y x hy hx => by
    obtain ⟨a, c, d⟩ := chn_append.mp h.chn
    cases ht : t with
    | nil =>
      subst ht
      have hy' : s.head? = some y := hy
      have hx' : s.getLast? = some x := by
        rw [List.nil_append] at hx
        exact hx
      exact h.shut y x (by rw [List.append_nil]; exact hy') (by rw [List.append_nil]; exact hx')
    | cons u t' =>
      cases hs : s.getLast? with
      | none =>
        have : s = [] := List.getLast?_eq_none_iff.mp hs
        subst this
        rw [List.append_nil] at hy hx
        exact h.shut y x hy hx
      | some l =>
        have e1 : x = l := by
          rw [List.getLast?_append, hs] at hx
          exact (Option.some.inj hx).symm
        have e2 : y = u := by
          rw [ht] at hy
          exact (Option.some.inj hy).symm
        rw [e1, e2]
        exact d l u hs (by rw [ht]; rfl)
/-- the least one of some -/
theorem least_mem : ∀ (c : List Int), c ≠ [] → ∃ m ∈ c, ∀ x ∈ c, m ≤ x
  | [], h => absurd rfl h
  | [x], _ => ⟨x, List.mem_cons_self, fun y hy => by rw [List.mem_singleton.mp hy]; exact Int.le_refl _⟩
  | x :: y :: r, _ => by
    obtain ⟨m, hm, hl⟩ := least_mem (y :: r) (by simp)
    by_cases c : x ≤ m
    · refine ⟨x, List.mem_cons_self, fun z hz => ?_⟩
      rcases List.mem_cons.mp hz with e | hz
      · rw [e]; exact Int.le_refl _
      · have := hl z hz; omega
    · refine ⟨m, List.mem_cons_of_mem _ hm, fun z hz => ?_⟩
      rcases List.mem_cons.mp hz with e | hz
      · rw [e]; omega
      · exact hl z hz
/-- a ring as it is told: of three or more, beginning with its least place -/
structure RingAt (b : Int → Int → Bool) (S c : List Int) : Prop where
  cyc : Cyc b S c
  three : 3 ≤ c.length
  least : ∀ h, c.head? = some h → ∀ x ∈ c, h ≤ x
theorem ring_of_cyc {S c : List Int} (irr : ∀ x, b x x = false) (asy : ∀ x y, b x y = true → b y x = false) (h : Cyc b S c) : ∃ c', RingAt b S c' ∧ c'.length = c.length := by
  obtain ⟨m, hm, hl⟩ := least_mem c h.ne
  obtain ⟨s, t, e⟩ := List.append_of_mem hm
  rw [e] at h
  have h2 := h.turn
  refine ⟨(m :: t) ++ s, ⟨h2, h2.three irr asy, fun x hx y hy => ?_⟩, ?_⟩
  · have : m = x := Option.some.inj hx
    rw [← this]
    refine hl y ?_
    rw [e]
    rcases List.mem_append.mp hy with z | z
    · exact List.mem_append_right _ z
    · exact List.mem_append_left _ z
  · rw [e, List.length_append, List.length_append]
    omega
/-! ### ranks -/
/-- the places left that none left beats -/
def freeL (b : Int → Int → Bool) (L : List Int) : List Int := L.filter fun x => (L.filter fun y => b y x).isEmpty
def ranksF (b : Int → Int → Bool) : Nat → List Int → Option (List Int)
  | 0, _ => some []
  | k + 1, L => match freeL b L with
    | [] => none
    | x :: _ => (ranksF b k (L.erase x)).map (x :: ·)
theorem free_mem {L : List Int} {x : Int} : x ∈ freeL b L ↔ x ∈ L ∧ ∀ y ∈ L, b y x = false := by
  unfold freeL
  rw [List.mem_filter, List.isEmpty_iff, List.filter_eq_nil_iff]
  constructor
  · rintro ⟨h1, h2⟩
    exact ⟨h1, fun y hy => by
      have := h2 y hy
      cases hb : b y x with
      | false => rfl
      | true => exact absurd hb this⟩
  · rintro ⟨h1, h2⟩
    exact ⟨h1, fun y hy z => by rw [h2 y hy] at z; cases z⟩
/-- where there is a ring among those left, they cannot all be taken -/
theorem ranks_ring {c : List Int} : ∀ (k : Nat) {L : List Int}, L.length = k → Cyc b L c → ranksF b k L = none
  | 0, L, hl, h => by
    have : L = [] := List.eq_nil_of_length_eq_zero hl
    subst this
    cases c with
    | nil => exact absurd rfl h.ne
    | cons x r => exact absurd (h.inn x List.mem_cons_self) (by simp)
  | k + 1, L, hl, h => by
    unfold ranksF
    cases hf : freeL b L with
    | nil => rfl
    | cons x r =>
      have hx : x ∈ freeL b L := by rw [hf]; exact List.mem_cons_self
      obtain ⟨hxL, hno⟩ := free_mem.mp hx
      have hxc : x ∉ c := fun z => by
        obtain ⟨y, hy, hb⟩ := h.beaten z
        rw [hno y (h.inn y hy)] at hb
        cases hb
      have h2 : Cyc b (L.erase x) c := { h with inn := fun y hy => (List.mem_erase_of_ne fun (e : y = x) => hxc (by rw [← e]; exact hy)).mpr (h.inn y hy) }
      have := ranks_ring k (L := L.erase x) (by rw [List.length_erase_of_mem hxL]; omega) h2
      show (ranksF b k (L.erase x)).map (x :: ·) = none
      rw [this]
      rfl
/-- where they cannot all be taken there is a ring -/
theorem ring_ranks (irr : ∀ x, b x x = false) : ∀ (k : Nat) {L : List Int}, L.length = k → ranksF b k L = none → ∃ c, Cyc b L c
  | 0, L, _, h => by cases h
  | k + 1, L, hl, h => by
    unfold ranksF at h
    cases hf : freeL b L with
    | nil =>
      refine cyc_of_stuck irr (fun z => by rw [z] at hl; cases hl) fun x hx => ?_
      have hn : x ∉ freeL b L := by rw [hf]; simp
      cases he : L.filter (fun y => b y x) with
      | nil => exact absurd (free_mem.mpr ⟨hx, fun y hy => by
          have := List.filter_eq_nil_iff.mp he y hy
          cases hb : b y x with
          | false => rfl
          | true => exact absurd hb this⟩) hn
      | cons y r =>
        have hy : y ∈ L.filter fun y => b y x := by rw [he]; exact List.mem_cons_self
        exact ⟨y, (List.mem_filter.mp hy).1, (List.mem_filter.mp hy).2⟩
    | cons x r =>
      rw [hf] at h
      have hx : x ∈ freeL b L := by rw [hf]; exact List.mem_cons_self
      have hxL := (free_mem.mp hx).1
      cases hr : ranksF b k (L.erase x) with
      | none =>
        obtain ⟨c, hc⟩ := ring_ranks irr k (L := L.erase x) (by rw [List.length_erase_of_mem hxL]; omega) hr
        exact ⟨c, { hc with inn := fun y hy => List.mem_of_mem_erase (hc.inn y hy) }⟩
      | some l =>
        have h' : (ranksF b k (L.erase x)).map (x :: ·) = none := h
        rw [hr] at h'
        cases h'
/-- what is taken: all places once, none beating one ahead of it -/
theorem ranks_are : ∀ (k : Nat) {L l : List Int}, L.length = k → L.Nodup → ranksF b k L = some l → l.Perm L ∧ l.Pairwise fun x y => b y x = false
  | 0, L, l, hl, _, h => by
    have : L = [] := List.eq_nil_of_length_eq_zero hl
    subst this
    have e : l = [] := (Option.some.inj h).symm
    subst e
    exact ⟨List.Perm.nil, List.Pairwise.nil⟩
  | k + 1, L, l, hl, hn, h => by
    unfold ranksF at h
    cases hf : freeL b L with
    | nil => rw [hf] at h; cases h
    | cons x r =>
      rw [hf] at h
      have hx : x ∈ freeL b L := by rw [hf]; exact List.mem_cons_self
      obtain ⟨hxL, hno⟩ := free_mem.mp hx
      have h' : (ranksF b k (L.erase x)).map (x :: ·) = some l := h
      cases hr : ranksF b k (L.erase x) with
      | none => rw [hr] at h'; cases h'
      | some m =>
        rw [hr] at h'
        have e : x :: m = l := Option.some.inj h'
        subst e
        obtain ⟨p1, p2⟩ := ranks_are k (L := L.erase x) (by rw [List.length_erase_of_mem hxL]; omega) (hn.erase x) hr
        exact ⟨(List.Perm.cons x p1).trans (List.perm_cons_erase hxL).symm, List.pairwise_cons.mpr ⟨fun y hy => hno y (List.mem_of_mem_erase (p1.mem_iff.mp hy)), p2⟩⟩
end
end My

/-! The ring that is to be told: just one; and all rows of places, the shorter ones first, find it. -/
namespace My
open PySem PySem.Spec PyProof.Rows L2
section
variable {b : Int → Int → Bool}
/-- what is to be told: a shortest ring, of these the least as a list; nothing where there is none -/
def IsRing (b : Int → Int → Bool) (S : List Int) : Option (List Int) → Prop
  | none => ∀ c, ¬ RingAt b S c
  | some c => RingAt b S c ∧ ∀ c', RingAt b S c' → c.length ≤ c'.length ∧ (c'.length = c.length → lxL c' c = false)
theorem ring_one {S : List Int} : ∀ {o o' : Option (List Int)}, IsRing b S o → IsRing b S o' → o = o'
  | none, none, _, _ => rfl
  | none, some c, h, h' => absurd h'.1 (h c)
  | some c, none, h, h' => absurd h.1 (h' c)
  | some c, some c', h, h' => by
    obtain ⟨r, m⟩ := h
    obtain ⟨r', m'⟩ := h'
    obtain ⟨l1, x1⟩ := m c' r'
    obtain ⟨l2, x2⟩ := m' c r
    have e : c'.length = c.length := Nat.le_antisymm l2 l1
    rw [lxL_total (x2 e.symm) (x1 e)]
/-- a row of places, the first one the least, each beating the next one -/
structure Pth (b : Int → Int → Bool) (n : Nat) (p : List Int) : Prop where
  ne : p ≠ []
  nd : p.Nodup
  inn : ∀ x ∈ p, 0 ≤ x ∧ x < (n : Int)
  chn : Chn b p
  least : ∀ x ∈ p.tail, p.headD 0 < x
def stepR (b : Int → Int → Bool) (n : Nat) (row : List Int) : List Int := (rangeV (row.headD 0 + 1) ((n : Int) - (row.headD 0 + 1)).toNat).filter fun y => !row.contains y && b (row.getLastD 0) y
def longerR (b : Int → Int → Bool) (n : Nat) (rows : List (List Int)) : List (List Int) := rows.flatMap fun row => (stepR b n row).map fun y => row ++ [y]
def rowsR (b : Int → Int → Bool) (n : Nat) : Nat → List (List Int)
  | 0 => (rangeV 0 n).map fun x => [x]
  | k + 1 => longerR b n (rowsR b n k)
def closedR (b : Int → Int → Bool) (rows : List (List Int)) : List (List Int) := rows.filter fun r => decide (2 < r.length) && b (r.getLastD 0) (r.headD 0)
theorem headD_append {p : List Int} (h : p ≠ []) (q : List Int) : (p ++ q).headD 0 = p.headD 0 := by
  cases p with
  | nil => exact absurd rfl h
  | cons x r => rfl
theorem head_of {p : List Int} (h : p ≠ []) : p.head? = some (p.headD 0) := by
  cases p with
  | nil => exact absurd rfl h
  | cons x r => rfl
theorem last_of {p : List Int} (h : p ≠ []) : p.getLast? = some (p.getLastD 0) := by
  rcases List.eq_nil_or_concat p with e | ⟨l, x, e⟩
  · exact absurd e h
  · rw [e, List.concat_eq_append, List.getLast?_append]
    simp
theorem step_mem {n : Nat} {row : List Int} {y : Int} : y ∈ stepR b n row ↔ (row.headD 0 < y ∧ y < (n : Int)) ∧ y ∉ row ∧ b (row.getLastD 0) y = true := by
  unfold stepR
  rw [List.mem_filter, rangeV_mem, Bool.and_eq_true, Bool.not_eq_true', List.contains_eq_mem, decide_eq_false_iff_not]
  constructor
  · rintro ⟨⟨h1, h2⟩, h3, h4⟩
    exact ⟨⟨by omega, by omega⟩, h3, h4⟩
  · rintro ⟨⟨h1, h2⟩, h3, h4⟩
    exact ⟨⟨by omega, by omega⟩, h3, h4⟩
theorem pth_more {n : Nat} {row : List Int} {y : Int} (h : Pth b n row) (hy : y ∈ stepR b n row) : Pth b n (row ++ [y]) := by
  obtain ⟨⟨y1, y2⟩, y3, y4⟩ := step_mem.mp hy
  have h0 := h.inn (row.headD 0) (List.mem_of_mem_head? (head_of h.ne))
  refine ⟨by simp, ?_, fun x hx => ?_, chn_append.mpr ⟨h.chn, trivial, fun u v hu hv => ?_⟩, fun x hx => ?_⟩
  · rw [List.nodup_append]
    exact ⟨h.nd, List.nodup_cons.mpr ⟨by simp, List.nodup_nil⟩, fun u hu v hv => by
      rw [List.mem_singleton.mp hv]
      exact fun z => y3 (z ▸ hu)⟩
  · rcases List.mem_append.mp hx with hx | hx
    · exact h.inn x hx
    · rw [List.mem_singleton.mp hx]
      omega
  · rw [last_of h.ne] at hu
    cases hu
    cases hv
    exact y4
  · rw [headD_append h.ne]
    have : x ∈ row.tail ∨ x = y := by
      cases row with
      | nil => exact absurd rfl h.ne
      | cons u r =>
        have hx' : x ∈ r ++ [y] := hx
        rcases List.mem_append.mp hx' with z | z
        · exact .inl z
        · exact .inr (List.mem_singleton.mp z)
    rcases this with z | z
    · exact h.least x z
    · rw [z]
      exact y1
theorem pth_less {n : Nat} {row : List Int} {y : Int} (hr : row ≠ []) (h : Pth b n (row ++ [y])) : Pth b n row ∧ y ∈ stepR b n row := by
  obtain ⟨c1, c2, c3⟩ := chn_append.mp h.chn
  obtain ⟨n1, n2, n3⟩ := List.nodup_append.mp h.nd
  have ht : (row ++ [y]).tail = row.tail ++ [y] := by
    cases row with
    | nil => exact absurd rfl hr
    | cons u r => rfl
  have hl := h.least
  rw [ht, headD_append hr] at hl
  refine ⟨⟨hr, n1, fun x hx => h.inn x (List.mem_append_left _ hx), c1, fun x hx => hl x (List.mem_append_left _ hx)⟩, step_mem.mpr ⟨⟨hl y (List.mem_append_right _ (List.mem_singleton.mpr rfl)), ?_⟩, fun z => n3 y z y (List.mem_singleton.mpr rfl) rfl, c3 _ _ (last_of hr) rfl⟩⟩
  exact (h.inn y (List.mem_append_right _ (List.mem_singleton.mpr rfl))).2
theorem rows_mem {n : Nat} : ∀ {k : Nat} {p : List Int}, p ∈ rowsR b n k ↔ p.length = k + 1 ∧ Pth b n p
  | 0, p => by
    unfold rowsR
    rw [List.mem_map]
    constructor
    · rintro ⟨x, hx, rfl⟩
      have := rangeV_mem.mp hx
      exact ⟨rfl, by simp, List.nodup_cons.mpr ⟨by simp, List.nodup_nil⟩, fun y hy => by rw [List.mem_singleton.mp hy]; omega, trivial, fun y hy => by cases hy⟩
    · rintro ⟨hl, h⟩
      match p, hl, h with
      | [x], _, h =>
        have := h.inn x List.mem_cons_self
        exact ⟨x, rangeV_mem.mpr ⟨by omega, by omega⟩, rfl⟩
  | k + 1, p => by
    unfold rowsR longerR
    rw [List.mem_flatMap]
    constructor
    · rintro ⟨row, hrow, hp⟩
      obtain ⟨y, hy, rfl⟩ := List.mem_map.mp hp
      obtain ⟨hl, h⟩ := rows_mem.mp hrow
      exact ⟨by rw [List.length_append, hl]; rfl, pth_more h hy⟩
    · rintro ⟨hl, h⟩
      rcases List.eq_nil_or_concat p with e | ⟨row, y, e⟩
      · rw [e] at hl
        cases hl
      · rw [List.concat_eq_append] at e
        subst e
        have hlr : row.length = k + 1 := by
          rw [List.length_append] at hl
          have : row.length + 1 = k + 1 + 1 := hl
          omega
        have hr : row ≠ [] := fun z => by rw [z] at hlr; cases hlr
        obtain ⟨h1, h2⟩ := pth_less hr h
        exact ⟨row, rows_mem.mpr ⟨hlr, h1⟩, List.mem_map.mpr ⟨y, h2, rfl⟩⟩
theorem ring_pth {n : Nat} {p : List Int} : RingAt b (rangeV 0 n) p ↔ Pth b n p ∧ 2 < p.length ∧ b (p.getLastD 0) (p.headD 0) = true := by
  constructor
  · intro h
    have hh := head_of h.cyc.ne
    refine ⟨⟨h.cyc.ne, h.cyc.nd, fun x hx => ?_, h.cyc.chn, fun x hx => ?_⟩, h.three, h.cyc.shut _ _ hh (last_of h.cyc.ne)⟩
    · have := rangeV_mem.mp (h.cyc.inn x hx)
      omega
    · have l := h.least _ hh x (List.mem_of_mem_tail hx)
      have : p.headD 0 ≠ x := by
        have hn := h.cyc.nd
        cases p with
        | nil => cases hx
        | cons u r =>
          intro z
          have z' : u = x := z
          have hx' : x ∈ r := hx
          exact (List.nodup_cons.mp hn).1 (z' ▸ hx')
      omega
  · rintro ⟨h, h3, hs⟩
    refine ⟨⟨h.ne, h.nd, fun x hx => rangeV_mem.mpr (by have := h.inn x hx; omega), h.chn, fun u v hu hv => ?_⟩, h3, fun u hu x hx => ?_⟩
    · rw [head_of h.ne] at hu
      rw [last_of h.ne] at hv
      cases hu
      cases hv
      exact hs
    · rw [head_of h.ne] at hu
      cases hu
      have : x = p.headD 0 ∨ x ∈ p.tail := by
        cases p with
        | nil => cases hx
        | cons u r => exact List.mem_cons.mp hx
      rcases this with z | z
      · omega
      · have := h.least x z
        omega
theorem closed_mem {n k : Nat} {p : List Int} : p ∈ closedR b (rowsR b n k) ↔ p.length = k + 1 ∧ RingAt b (rangeV 0 n) p := by
  unfold closedR
  rw [List.mem_filter, rows_mem, ring_pth, Bool.and_eq_true, decide_eq_true_eq]
  constructor
  · rintro ⟨⟨a, c⟩, d, e⟩
    exact ⟨a, c, d, e⟩
  · rintro ⟨a, c, d, e⟩
    exact ⟨⟨a, c⟩, d, e⟩
/-- no row is longer than there are places -/
theorem rows_end {n k : Nat} (h : n ≤ k) : rowsR b n k = [] := by
  cases e : rowsR b n k with
  | nil => rfl
  | cons p r =>
    have hp : p ∈ rowsR b n k := by rw [e]; exact List.mem_cons_self
    obtain ⟨hl, h2⟩ := rows_mem.mp hp
    have := nodup_len (S := rangeV 0 n) h2.nd fun x hx => rangeV_mem.mpr (by have := h2.inn x hx; omega)
    rw [rangeV_len] at this
    omega
theorem rows_stop {n : Nat} {k : Nat} (h : rowsR b n k = []) : ∀ j, k ≤ j → rowsR b n j = [] := by
  intro j hj
  obtain ⟨d, rfl⟩ : ∃ d, j = k + d := ⟨j - k, by omega⟩
  clear hj
  induction d with
  | zero => exact h
  | succ d ih =>
    show longerR b n (rowsR b n (k + d)) = []
    rw [ih]
    rfl
/-- found among the rows of a length, none being shorter -/
theorem ring_found {n k : Nat} {c : List Int} {cs : List (List Int)} (no : ∀ j, j < k → closedR b (rowsR b n j) = []) (h : closedR b (rowsR b n k) = c :: cs) : IsRing b (rangeV 0 n) (some (PySem.W.minOf c cs)) := by
  have hm := minOf_mem cs c
  rw [← h] at hm
  obtain ⟨hl, hr⟩ := closed_mem.mp hm
  refine ⟨hr, fun c' hr' => ⟨?_, fun e => ?_⟩⟩
  · have h3 := hr'.three
    have hc : c' ∈ closedR b (rowsR b n (c'.length - 1)) := closed_mem.mpr ⟨by omega, hr'⟩
    cases Nat.lt_or_ge (c'.length - 1) k with
    | inl lt =>
      rw [no _ lt] at hc
      cases hc
    | inr ge => omega
  · refine minOf_le cs c c' ?_
    rw [← h]
    exact closed_mem.mpr ⟨by omega, hr'⟩
theorem ring_none {n k : Nat} (no : ∀ j, j < k → closedR b (rowsR b n j) = []) (h : rowsR b n k = []) : IsRing b (rangeV 0 n) none := fun c hr => by
  have h3 := hr.three
  have hc : c ∈ closedR b (rowsR b n (c.length - 1)) := closed_mem.mpr ⟨by omega, hr⟩
  cases Nat.lt_or_ge (c.length - 1) k with
  | inl lt =>
    rw [no _ lt] at hc
    cases hc
  | inr ge =>
    rw [rows_stop h _ ge] at hc
    cases hc
/-- just where there is no ring there are ranks -/
theorem ring_or_ranks {n : Nat} {o : Option (List Int)} (irr : ∀ x, b x x = false) (asy : ∀ x y, b x y = true → b y x = false) (h : IsRing b (rangeV 0 n) o) : o = none ↔ ∃ l, ranksF b n (rangeV 0 n) = some l := by
  have hl : (rangeV 0 n).length = n := rangeV_len 0 n
  constructor
  · intro e
    subst e
    cases hr : ranksF b n (rangeV 0 n) with
    | some l => exact ⟨l, rfl⟩
    | none =>
      obtain ⟨c, hc⟩ := ring_ranks irr n hl hr
      obtain ⟨c', hc', _⟩ := ring_of_cyc irr asy hc
      exact absurd hc' (h c')
  · rintro ⟨l, hr⟩
    cases o with
    | none => rfl
    | some c =>
      have := ranks_ring n hl h.1.cyc
      rw [this] at hr
      cases hr
/-! ### how many rows there are -/
def fac : Nat → Nat
  | 0 => 1
  | k + 1 => (k + 1) * fac k
theorem fac_pos : ∀ k, 1 ≤ fac k
  | 0 => Nat.le_refl 1
  | k + 1 => Nat.mul_pos (Nat.succ_pos k) (fac_pos k)
theorem range_nodup (lo : Int) (n : Nat) : (rangeV lo n).Nodup := by
  unfold rangeV
  refine List.pairwise_map.mpr (List.nodup_range.imp fun {x y} h => ?_)
  intro z
  exact h (by omega)
theorem step_len {n : Nat} {row : List Int} (h : Pth b n row) : row.length + (stepR b n row).length ≤ n := by
  have hn : (row ++ stepR b n row).Nodup := by
    rw [List.nodup_append]
    refine ⟨h.nd, (range_nodup _ _).sublist List.filter_sublist, fun x hx y hy e => ?_⟩
    exact (step_mem.mp hy).2.1 (e ▸ hx)
  have h0 := h.inn (row.headD 0) (List.mem_of_mem_head? (head_of h.ne))
  have := nodup_len (S := rangeV 0 n) hn fun x hx => rangeV_mem.mpr (by
    rcases List.mem_append.mp hx with z | z
    · have := h.inn x z
      omega
    · have := (step_mem.mp z).1
      omega)
  rw [List.length_append, rangeV_len] at this
  exact this
theorem longer_len {n m : Nat} : ∀ {rows : List (List Int)}, (∀ row ∈ rows, (stepR b n row).length ≤ m) → (longerR b n rows).length ≤ rows.length * m
  | [], _ => Nat.zero_le _
  | row :: r, h => by
    have ih := longer_len (rows := r) fun x hx => h x (List.mem_cons_of_mem _ hx)
    have h1 := h row List.mem_cons_self
    unfold longerR at ih ⊢
    rw [List.flatMap_cons, List.length_append, List.length_map, List.length_cons, Nat.succ_mul]
    omega
theorem rows_len {n : Nat} : ∀ k, (rowsR b n k).length * fac (n - 1 - k) ≤ n * fac (n - 1)
  | 0 => by
    unfold rowsR
    rw [List.length_map, rangeV_len, Nat.sub_zero]
    exact Nat.le_refl _
  | k + 1 => by
    have ih := rows_len (n := n) k
    have h1 : (longerR b n (rowsR b n k)).length ≤ (rowsR b n k).length * (n - 1 - k) := longer_len fun row hr => by
      obtain ⟨hl, h⟩ := rows_mem.mp hr
      have := step_len h
      omega
    show (longerR b n (rowsR b n k)).length * fac (n - 1 - (k + 1)) ≤ _
    cases hm : n - 1 - k with
    | zero =>
      rw [hm, Nat.mul_zero] at h1
      have : (longerR b n (rowsR b n k)).length = 0 := by omega
      rw [this, Nat.zero_mul]
      exact Nat.zero_le _
    | succ m =>
      have e : n - 1 - (k + 1) = m := by omega
      rw [e]
      rw [hm] at h1 ih
      refine Nat.le_trans (Nat.mul_le_mul_right _ h1) ?_
      rw [Nat.mul_assoc]
      exact ih
theorem fac_le : ∀ {n : Nat}, n ≤ 8 → n * fac (n - 1) ≤ 40320 := by
  intro n h
  obtain h | h | h | h | h | h | h | h | h : n = 0 ∨ n = 1 ∨ n = 2 ∨ n = 3 ∨ n = 4 ∨ n = 5 ∨ n = 6 ∨ n = 7 ∨ n = 8 := by omega
  all_goals (subst h; decide)
theorem rows_top {n : Nat} (h : n ≤ 8) (k : Nat) : (rowsR b n k).length ≤ 40320 := by
  have h1 := rows_len (b := b) (n := n) k
  have h2 := fac_pos (n - 1 - k)
  have h3 := fac_le h
  have h4 : (rowsR b n k).length * 1 ≤ (rowsR b n k).length * fac (n - 1 - k) := Nat.mul_le_mul_left _ h2
  omega
/-! ### longer rows, one after another -/
def okR (b : Int → Int → Bool) (row : List Int) (y : Int) : Bool := !row.contains y && b (row.getLastD 0) y
def partR (b : Int → Int → Bool) (n : Nat) (rows : List (List Int)) (row : List Int) (j : Nat) : List (List Int) := longerR b n rows ++ ((rangeV (row.headD 0 + 1) j).filter (okR b row)).map fun y => row ++ [y]
theorem partR_zero (n : Nat) (rows : List (List Int)) (row : List Int) : partR b n rows row 0 = longerR b n rows := by
  unfold partR
  exact List.append_nil _
theorem partR_snoc (n : Nat) (rows : List (List Int)) (row : List Int) (j : Nat) : partR b n rows row (j + 1) = partR b n rows row j ++ if okR b row (row.headD 0 + 1 + ((j : Nat) : Int)) = true then [row ++ [row.headD 0 + 1 + ((j : Nat) : Int)]] else [] := by
  unfold partR
  rw [rangeV_snoc, List.filter_append, List.map_append, ← List.append_assoc]
  congr 1
  rw [List.filter_cons]
  split <;> rfl
theorem partR_all (n : Nat) (rows : List (List Int)) (row : List Int) : partR b n rows row ((n : Int) - (row.headD 0 + 1)).toNat = longerR b n (rows ++ [row]) := by
  unfold partR longerR
  rw [List.flatMap_append]
  congr 1
  rw [List.flatMap_cons, List.flatMap_nil, List.append_nil]
  rfl
theorem longer_take (n : Nat) (rows : List (List Int)) (i : Nat) : (longerR b n (rows.take i)).length ≤ (longerR b n rows).length := by
  have : longerR b n rows = longerR b n (rows.take i) ++ longerR b n (rows.drop i) := by
    unfold longerR
    rw [← List.flatMap_append, List.take_append_drop]
  rw [this, List.length_append]
  omega
theorem range_take (lo : Int) {j m : Nat} (h : j ≤ m) : rangeV lo j = (rangeV lo m).take j := by
  unfold rangeV
  rw [← List.map_take, List.take_range, Nat.min_eq_left h]
theorem partR_len {n : Nat} {rows : List (List Int)} {row : List Int} {i j : Nat} (hi : rows[i]? = some row) (hj : j ≤ ((n : Int) - (row.headD 0 + 1)).toNat) : (partR b n (rows.take i) row j).length ≤ (longerR b n rows).length := by
  have h1 : (partR b n (rows.take i) row j).length ≤ (partR b n (rows.take i) row ((n : Int) - (row.headD 0 + 1)).toNat).length := by
    unfold partR
    rw [List.length_append, List.length_append, List.length_map, List.length_map]
    have := (((List.take_sublist j (rangeV (row.headD 0 + 1) ((n : Int) - (row.headD 0 + 1)).toNat)).filter (okR b row))).length_le
    rw [← range_take _ hj] at this
    omega
  rw [partR_all, ← take_snoc hi] at h1
  exact Nat.le_trans h1 (longer_take n rows (i + 1))
end
end My

/-! The first ring that is met when one goes on from each place in turn: it is the least of its length. -/
namespace My
open PySem PySem.Spec PyProof.Rows L2
section
variable {b : Int → Int → Bool}
def extR (b : Int → Int → Bool) (n : Nat) : Nat → List Int → List (List Int)
  | 0, row => [row]
  | k + 1, row => (stepR b n row).flatMap fun y => extR b n k (row ++ [y])
def endR (b : Int → Int → Bool) (row : List Int) : Bool := b (row.getLastD 0) (row.headD 0)
def ringF (b : Int → Int → Bool) (n : Nat) : Nat → List Int → Option (List Int)
  | 0, row => if endR b row = true then some row else none
  | k + 1, row => (stepR b n row).findSome? fun y => ringF b n k (row ++ [y])
theorem ringF_is (n : Nat) : ∀ (k : Nat) (row : List Int), ringF b n k row = (extR b n k row).find? (endR b)
  | 0, row => by
    unfold ringF extR
    rw [List.find?_cons]
    cases endR b row <;> rfl
  | k + 1, row => by
    unfold ringF extR
    rw [List.find?_flatMap]
    congr 1
    funext y
    exact ringF_is n k (row ++ [y])
theorem longer_flat {α : Type} (n : Nat) (f : α → List (List Int)) : ∀ l : List α, longerR b n (l.flatMap f) = l.flatMap fun x => longerR b n (f x)
  | [] => rfl
  | x :: r => by
    have ih := longer_flat n f r
    rw [List.flatMap_cons, List.flatMap_cons, ← ih]
    unfold longerR
    rw [List.flatMap_append]
theorem ext_last (n : Nat) : ∀ (k : Nat) (row : List Int), extR b n (k + 1) row = longerR b n (extR b n k row)
  | 0, row => by
    show ((stepR b n row).flatMap fun y => [row ++ [y]]) = longerR b n [row]
    unfold longerR
    rw [List.flatMap_cons, List.flatMap_nil, List.append_nil]
    induction stepR b n row with
    | nil => rfl
    | cons y r ih =>
      rw [List.flatMap_cons, ih, List.map_cons]
      rfl
  | k + 1, row => by
    show ((stepR b n row).flatMap fun y => extR b n (k + 1) (row ++ [y])) = longerR b n ((stepR b n row).flatMap fun y => extR b n k (row ++ [y]))
    rw [longer_flat]
    congr 1
    funext y
    exact ext_last n k (row ++ [y])
theorem rows_ext (n : Nat) : ∀ k : Nat, rowsR b n k = (rangeV 0 n).flatMap fun x => extR b n k [x]
  | 0 => by
    show (rangeV 0 n).map (fun x => [x]) = (rangeV 0 n).flatMap fun x => [[x]]
    induction rangeV 0 n with
    | nil => rfl
    | cons y r ih =>
      rw [List.flatMap_cons, ← ih, List.map_cons]
      rfl
  | k + 1 => by
    show longerR b n (rowsR b n k) = _
    rw [rows_ext n k, longer_flat]
    congr 1
    funext x
    exact (ext_last n k [x]).symm
theorem closed_end {n k : Nat} (h : 2 ≤ k) : closedR b (rowsR b n k) = (rowsR b n k).filter (endR b) := by
  unfold closedR
  apply List.filter_congr
  intro p hp
  have := (rows_mem.mp hp).1
  rw [decide_eq_true (by omega), Bool.true_and]
  rfl
theorem closed_short {n k : Nat} (h : k < 2) : closedR b (rowsR b n k) = [] := by
  refine List.filter_eq_nil_iff.mpr fun p hp z => ?_
  have := (rows_mem.mp hp).1
  rw [Bool.and_eq_true, decide_eq_true_eq] at z
  omega
/-- what the starts bring, one after another -/
theorem starts_is {n k : Nat} (h : 2 ≤ k) : (rangeV 0 n).findSome? (fun x => ringF b n k [x]) = (closedR b (rowsR b n k)).head? := by
  rw [closed_end h, List.head?_filter, rows_ext, List.find?_flatMap]
  congr 1
  funext x
  exact ringF_is n k [x]
/-! ### the rows stand in order -/
theorem lx_snoc_lt {p q : List Int} (h : lxL p q = true) (hl : p.length = q.length) (u v : List Int) : lxL (p ++ u) (q ++ v) = true := by
  induction p generalizing q with
  | nil =>
    cases q with
    | nil => cases h
    | cons y r => cases hl
  | cons x r ih =>
    cases q with
    | nil => cases hl
    | cons y s =>
      unfold lxL at h
      show (if x = y then lxL (r ++ u) (s ++ v) else decide (x < y)) = true
      by_cases e : x = y
      · rw [if_pos e] at h ⊢
        exact ih h (by simpa using hl)
      · rw [if_neg e] at h ⊢
        exact h
theorem lx_same (x y : Int) (h : x < y) : ∀ p : List Int, lxL (p ++ [x]) (p ++ [y]) = true
  | [] => by
    show (if x = y then lxL [] [] else decide (x < y)) = true
    rw [if_neg (by omega)]
    exact decide_eq_true h
  | z :: r => by
    show (if z = z then lxL (r ++ [x]) (r ++ [y]) else decide (z < z)) = true
    rw [if_pos rfl]
    exact lx_same x y h r
theorem range_rises (lo : Int) (n : Nat) : (rangeV lo n).Pairwise (· < ·) := by
  unfold rangeV
  refine List.pairwise_map.mpr (List.pairwise_lt_range.imp fun {x y} h => ?_)
  show lo + (x : Int) < lo + (y : Int)
  omega
theorem rows_rise (n : Nat) : ∀ k : Nat, (rowsR b n k).Pairwise fun p q => lxL p q = true
  | 0 => by
    unfold rowsR
    refine List.pairwise_map.mpr ((range_rises 0 n).imp fun {x y} h => ?_)
    exact lx_same x y h []
  | k + 1 => by
    have ih := rows_rise n k
    have hlen : ∀ row ∈ rowsR b n k, row.length = k + 1 := fun row h => (rows_mem.mp h).1
    show (longerR b n (rowsR b n k)).Pairwise fun p q => lxL p q = true
    generalize rowsR b n k = rows at *
    unfold longerR
    induction rows with
    | nil => exact List.Pairwise.nil
    | cons row r ih2 =>
      obtain ⟨h1, h2⟩ := List.pairwise_cons.mp ih
      rw [List.flatMap_cons, List.pairwise_append]
      refine ⟨?_, ih2 h2 fun x hx => hlen x (List.mem_cons_of_mem _ hx), fun p hp q hq => ?_⟩
      · refine List.pairwise_map.mpr (((range_rises _ _).sublist List.filter_sublist).imp fun {x y} h => ?_)
        exact lx_same x y h row
      · obtain ⟨y, _, rfl⟩ := List.mem_map.mp hp
        obtain ⟨row2, hr2, hq⟩ := List.mem_flatMap.mp hq
        obtain ⟨z, _, rfl⟩ := List.mem_map.mp hq
        refine lx_snoc_lt (h1 row2 hr2) ?_ _ _
        rw [hlen row List.mem_cons_self, hlen row2 (List.mem_cons_of_mem _ hr2)]
theorem lx_asym {p q : List Int} (h : lxL p q = true) : lxL q p = false := by
  cases e : lxL q p with
  | false => rfl
  | true =>
    have := lxL_trans h e
    rw [lxL_irr] at this
    cases this
/-- the first one of a length, none being shorter -/
theorem ring_first {n k : Nat} {c : List Int} (no : ∀ j, j < k → closedR b (rowsR b n j) = []) (h : (closedR b (rowsR b n k)).head? = some c) : IsRing b (rangeV 0 n) (some c) := by
  cases hc : closedR b (rowsR b n k) with
  | nil => rw [hc] at h; cases h
  | cons d cs =>
    rw [hc] at h
    cases h
    have hm : c ∈ closedR b (rowsR b n k) := by rw [hc]; exact List.mem_cons_self
    obtain ⟨hl, hr⟩ := closed_mem.mp hm
    refine ⟨hr, fun c' hr' => ⟨?_, fun e => ?_⟩⟩
    · have h3 := hr'.three
      have hc' : c' ∈ closedR b (rowsR b n (c'.length - 1)) := closed_mem.mpr ⟨by omega, hr'⟩
      cases Nat.lt_or_ge (c'.length - 1) k with
      | inl lt =>
        rw [no _ lt] at hc'
        cases hc'
      | inr ge => omega
    · have hc' : c' ∈ closedR b (rowsR b n k) := closed_mem.mpr ⟨by omega, hr'⟩
      have hp : (closedR b (rowsR b n k)).Pairwise fun p q => lxL p q = true := (rows_rise n k).sublist List.filter_sublist
      rw [hc] at hc' hp
      rcases List.mem_cons.mp hc' with z | z
      · rw [z]
        exact lxL_irr c
      · exact lx_asym ((List.pairwise_cons.mp hp).1 c' z)
theorem ring_no {n : Nat} (no : ∀ j, j < n → closedR b (rowsR b n j) = []) : IsRing b (rangeV 0 n) none := ring_none (k := n) no (rows_end (Nat.le_refl n))
/-! ### the places that are beaten -/
def beatL (b : Int → Int → Bool) (n : Nat) : List (List Int) := (rangeV 0 n).map fun i => (rangeV 0 n).filter (b i)
theorem beat_at {n : Nat} {i : Int} (h0 : 0 ≤ i) (h1 : i < (n : Int)) : (beatL b n)[i.toNat]? = some ((rangeV 0 n).filter (b i)) := by
  unfold beatL
  rw [List.getElem?_map]
  have : (rangeV 0 n)[i.toNat]? = some i := by
    unfold rangeV
    rw [List.getElem?_map, List.getElem?_range (by omega)]
    show some (0 + (i.toNat : Int)) = some i
    congr 1
    omega
  rw [this]
  rfl
theorem range_split (n : Nat) (h : Int) (h0 : 0 ≤ h) (h1 : h < (n : Int)) : (rangeV 0 n).filter (fun y => decide (h < y)) = rangeV (h + 1) ((n : Int) - (h + 1)).toNat := by
  have e : rangeV 0 n = rangeV 0 (h.toNat + 1) ++ rangeV (h + 1) ((n : Int) - (h + 1)).toNat := by
    apply List.ext_getElem?
    intro i
    unfold rangeV
    rw [List.getElem?_map]
    by_cases hi : i < h.toNat + 1
    · rw [List.getElem?_append_left (by rw [List.length_map, List.length_range]; exact hi), List.getElem?_map, List.getElem?_range (by omega), List.getElem?_range hi]
    · rw [List.getElem?_append_right (by rw [List.length_map, List.length_range]; omega), List.length_map, List.length_range, List.getElem?_map]
      by_cases hn : i < n
      · rw [List.getElem?_range hn, List.getElem?_range (by omega)]
        show some ((0 : Int) + (i : Int)) = some (h + 1 + ((i - (h.toNat + 1) : Nat) : Int))
        congr 1
        omega
      · rw [List.getElem?_eq_none (by rw [List.length_range]; omega), List.getElem?_eq_none (by rw [List.length_range]; omega)]
        rfl
  rw [e, List.filter_append, List.filter_eq_nil_iff.mpr (fun y hy => by
    have := rangeV_mem.mp hy
    rw [decide_eq_true_eq]
    omega), List.filter_eq_self.mpr (fun y hy => by
    have := rangeV_mem.mp hy
    rw [decide_eq_true_eq]
    omega), List.nil_append]
/-- the next places as the beaten ones tell them -/
theorem step_is {n : Nat} {row : List Int} (h0 : 0 ≤ row.headD 0) (h1 : row.headD 0 < (n : Int)) : stepR b n row = ((rangeV 0 n).filter (b (row.getLastD 0))).filter fun y => decide (row.headD 0 < y) && !row.contains y := by
  unfold stepR
  rw [← range_split n _ h0 h1, List.filter_filter, List.filter_filter]
  congr 1
  funext y
  cases decide (row.headD 0 < y) <;> cases row.contains y <;> cases b (row.getLastD 0) y <;> rfl
theorem find_filter {α β : Type} (p : α → Bool) (f : α → Option β) : ∀ l : List α, (l.filter p).findSome? f = l.findSome? fun x => if p x = true then f x else none
  | [] => rfl
  | x :: r => by
    have ih := find_filter p f r
    rw [List.filter_cons, List.findSome?_cons]
    cases h : p x with
    | true =>
      rw [if_pos rfl, if_pos rfl, List.findSome?_cons, ih]
    | false =>
      rw [if_neg (by decide), if_neg (by decide), ih]
end
end My

/-! Which die beats which: by the faces, two by two; among dice in a row, by their places. -/
namespace My
open PySem PySem.Spec PyProof.Rows L2
/-- above in more throws than below -/
def beatsB (ds es : List Int) : Bool := decide (aboveN es ds < aboveN ds es)
theorem beats_irr (ds : List Int) : beatsB ds ds = false := decide_eq_false (by omega)
theorem beats_asy {ds es : List Int} (h : beatsB ds es = true) : beatsB es ds = false := by
  have := of_decide_eq_true h
  exact decide_eq_false (by omega)
theorem above_nil (es : List Int) : aboveN [] es = 0 := rfl
theorem above_cons (f : Int) (r es : List Int) : aboveN (f :: r) es = (((es.filter fun g => decide (g < f)).length : Nat) : Int) + aboveN r es := by
  unfold aboveN
  rw [List.map_cons, List.sum_cons]
theorem above_snoc (es : List Int) (f : Int) : ∀ ds : List Int, aboveN (ds ++ [f]) es = aboveN ds es + (((es.filter fun g => decide (g < f)).length : Nat) : Int)
  | [] => by
    rw [List.nil_append, above_cons, above_nil]
    omega
  | x :: r => by
    rw [List.cons_append, above_cons, above_snoc es f r, above_cons]
    omega
theorem below_snoc (f g : Int) (es : List Int) : ((((es ++ [g]).filter fun g => decide (g < f)).length : Nat) : Int) = (((es.filter fun g => decide (g < f)).length : Nat) : Int) + if g < f then 1 else 0 := by
  rw [List.filter_append, List.length_append, List.filter_cons]
  by_cases c : g < f
  · rw [if_pos (decide_eq_true c), if_pos c]
    simp
  · rw [if_neg (by rw [decide_eq_true_eq]; exact c), if_neg c]
    simp
/-- faces of the other die that are greater -/
def overN (f : Int) (es : List Int) : Int := (es.map fun g => if f < g then (1 : Int) else 0).sum
theorem above_other (es : List Int) : ∀ ds : List Int, aboveN es ds = (ds.map fun f => overN f es).sum := fun ds => by
  unfold aboveN overN
  rw [sum_swap (fun f g => if f < g then (1 : Int) else 0) es ds]
  congr 1
  apply List.map_congr_left
  intro f _
  exact filter_ones ds f
/-- one by one: above less below -/
def signN (ds es : List Int) : Int := (ds.map fun f => (es.map fun g => (if g < f then (1 : Int) else 0) - if f < g then 1 else 0).sum).sum
theorem sum_minus {α : Type} (f g : α → Int) : ∀ l : List α, (l.map fun x => f x - g x).sum = (l.map f).sum - (l.map g).sum
  | [] => rfl
  | x :: r => by
    rw [List.map_cons, List.sum_cons, sum_minus f g r, List.map_cons, List.sum_cons, List.map_cons, List.sum_cons]
    omega
theorem sign_is (ds es : List Int) : signN ds es = aboveN ds es - aboveN es ds := by
  unfold signN
  have e : (ds.map fun f => (es.map fun g => (if g < f then (1 : Int) else 0) - if f < g then 1 else 0).sum) = ds.map fun f => (((es.filter fun g => decide (g < f)).length : Nat) : Int) - overN f es := by
    apply List.map_congr_left
    intro f _
    rw [sum_minus, filter_ones]
    rfl
  rw [e, sum_minus, above_other es ds]
  rfl
theorem sign_beats (ds es : List Int) : decide (0 < signN ds es) = beatsB ds es := by
  rw [sign_is]
  unfold beatsB
  by_cases c : aboveN es ds < aboveN ds es
  · rw [decide_eq_true c, decide_eq_true (by omega)]
  · rw [decide_eq_false c, decide_eq_false (by omega)]
/-- of dice in a row, by places -/
def placeB (dss : List (List Int)) (i j : Int) : Bool := beatsB (dss.getD i.toNat []) (dss.getD j.toNat [])
theorem place_irr (dss : List (List Int)) (i : Int) : placeB dss i i = false := beats_irr _
theorem place_asy (dss : List (List Int)) (i j : Int) (h : placeB dss i j = true) : placeB dss j i = false := beats_asy h
theorem place_at {dss : List (List Int)} {i j : Nat} {ds es : List Int} (hi : dss[i]? = some ds) (hj : dss[j]? = some es) : placeB dss (i : Int) (j : Int) = beatsB ds es := by
  unfold placeB
  rw [List.getD_eq_getElem?_getD, List.getD_eq_getElem?_getD, Int.toNat_natCast, Int.toNat_natCast, hi, hj]
  rfl
/-- how many pairs there are to look at -/
theorem above_top (ds es : List Int) : 0 ≤ aboveN ds es ∧ aboveN ds es ≤ ((ds.length : Nat) : Int) * ((es.length : Nat) : Int) := by
  induction ds with
  | nil =>
    rw [above_nil]
    simp
  | cons f r ih =>
    rw [above_cons, List.length_cons, Int.natCast_add, Int.add_mul]
    have := List.length_filter_le (fun g => decide (g < f)) es
    omega
/-- turned about: all faces from a number -/
theorem above_turn (m : Int) (ds es : List Int) : aboveN (ds.map (m - ·)) (es.map (m - ·)) = aboveN es ds := by
  rw [above_other es ds]
  unfold aboveN overN
  rw [List.map_map]
  congr 1
  apply List.map_congr_left
  intro f _
  show ((((es.map (m - ·)).filter fun g => decide (g < m - f)).length : Nat) : Int) = _
  rw [filter_ones, List.map_map]
  congr 1
  apply List.map_congr_left
  intro g _
  show (if m - g < m - f then (1 : Int) else 0) = if f < g then 1 else 0
  by_cases c : f < g
  · rw [if_pos c, if_pos (by omega)]
  · rw [if_neg c, if_neg (by omega)]
theorem above_lift (l : Int) (ds es : List Int) : aboveN (ds.map (· + l)) (es.map (· + l)) = aboveN ds es := by
  unfold aboveN
  rw [List.map_map]
  congr 1
  apply List.map_congr_left
  intro f _
  show ((((es.map (· + l)).filter fun g => decide (g < f + l)).length : Nat) : Int) = _
  rw [filter_ones, filter_ones, List.map_map]
  congr 1
  apply List.map_congr_left
  intro g _
  show (if g + l < f + l then (1 : Int) else 0) = if g < f then 1 else 0
  by_cases c : g < f
  · rw [if_pos c, if_pos (by omega)]
  · rw [if_neg c, if_neg (by omega)]
end My

/-! Rings of dice that are lifted, turned about, or of which one is taken away: as long. -/
namespace My
open PySem PySem.Spec PyProof.Rows L2
def sizeO : Option (List Int) → Nat
  | none => 0
  | some c => c.length
section
variable {b b' : Int → Int → Bool} {S S' : List Int}
theorem chn_map {f : Int → Int} : ∀ {c : List Int}, (∀ i ∈ c, ∀ j ∈ c, b i j = true → b' (f i) (f j) = true) → Chn b c → Chn b' (c.map f)
  | [], _, _ => trivial
  | [_], _, _ => trivial
  | x :: y :: r, k, h => by
    have h' : b x y = true ∧ Chn b (y :: r) := h
    exact ⟨k x (by simp) y (by simp) h'.1, chn_map (c := y :: r) (fun i hi j hj => k i (List.mem_cons_of_mem _ hi) j (List.mem_cons_of_mem _ hj)) h'.2⟩
theorem cyc_map {c : List Int} (f : Int → Int) (inj : ∀ i ∈ c, ∀ j ∈ c, f i = f j → i = j) (hS : ∀ i ∈ c, f i ∈ S') (k : ∀ i ∈ c, ∀ j ∈ c, b i j = true → b' (f i) (f j) = true) (h : Cyc b S c) : Cyc b' S' (c.map f) where
  ne := fun z => h.ne (List.map_eq_nil_iff.mp z)
  nd := by
    have hn := h.nd
    clear h hS k
    induction c with
    | nil => exact List.nodup_nil
    | cons x r ih =>
      obtain ⟨h1, h2⟩ := List.nodup_cons.mp hn
      rw [List.map_cons, List.nodup_cons]
      refine ⟨fun z => ?_, ih (fun i hi j hj => inj i (List.mem_cons_of_mem _ hi) j (List.mem_cons_of_mem _ hj)) h2⟩
      obtain ⟨y, hy, e⟩ := List.mem_map.mp z
      have := inj y (List.mem_cons_of_mem _ hy) x List.mem_cons_self e
      exact h1 (this ▸ hy)
  inn := fun x hx => by
    obtain ⟨y, hy, rfl⟩ := List.mem_map.mp hx
    exact hS y hy
  chn := chn_map k h.chn
  shut := fun hd l hh hl => by
    rw [List.head?_map] at hh
    rw [List.getLast?_map] at hl
    obtain ⟨x, hx, rfl⟩ := Option.map_eq_some_iff.mp hh
    obtain ⟨y, hy, rfl⟩ := Option.map_eq_some_iff.mp hl
    exact k y (List.mem_of_getLast? hy) x (List.mem_of_mem_head? hx) (h.shut x y hx hy)
theorem chn_turn (hb : ∀ x y, b' x y = b y x) : ∀ {c : List Int}, Chn b c → Chn b' c.reverse
  | [], _ => trivial
  | x :: r, h => by
    rw [List.reverse_cons]
    refine chn_append.mpr ⟨chn_turn hb h.tail, trivial, fun u v hu hv => ?_⟩
    rw [List.getLast?_reverse] at hu
    have ev : x = v := Option.some.inj hv
    subst ev
    cases r with
    | nil => cases hu
    | cons y s =>
      have eu : y = u := Option.some.inj hu
      subst eu
      rw [hb]
      exact h.1
theorem cyc_turn {c : List Int} (hb : ∀ x y, b' x y = b y x) (h : Cyc b S c) : Cyc b' S c.reverse where
  ne := fun z => h.ne (List.reverse_eq_nil_iff.mp z)
  nd := (List.reverse_perm c).nodup_iff.mpr h.nd
  inn := fun x hx => h.inn x (List.mem_reverse.mp hx)
  chn := chn_turn hb h.chn
  shut := fun hd l hh hl => by
    rw [List.head?_reverse] at hh
    rw [List.getLast?_reverse] at hl
    rw [hb]
    exact h.shut l hd hl hh
/-- as long, where each ring has one as long on the other side -/
theorem size_same {o o' : Option (List Int)} (h : IsRing b S o) (h' : IsRing b' S' o') (k : ∀ c, RingAt b S c → ∃ c', RingAt b' S' c' ∧ c'.length = c.length) (k' : ∀ c, RingAt b' S' c → ∃ c', RingAt b S c' ∧ c'.length = c.length) : sizeO o = sizeO o' := by
  cases o with
  | none =>
    cases o' with
    | none => rfl
    | some c' =>
      obtain ⟨c, hc, _⟩ := k' c' h'.1
      exact absurd hc (h c)
  | some c =>
    obtain ⟨d, hd, ld⟩ := k c h.1
    cases o' with
    | none => exact absurd hd (h' d)
    | some c' =>
      obtain ⟨d', hd', ld'⟩ := k' c' h'.1
      have h1 := (h'.2 d hd).1
      have h2 := (h.2 d' hd').1
      show c.length = c'.length
      omega
theorem size_turn {o o' : Option (List Int)} (irr : ∀ x, b x x = false) (asy : ∀ x y, b x y = true → b y x = false) (hb : ∀ x y, b' x y = b y x) (h : IsRing b S o) (h' : IsRing b' S o') : sizeO o = sizeO o' := by
  have irr' : ∀ x, b' x x = false := fun x => by rw [hb]; exact irr x
  have asy' : ∀ x y, b' x y = true → b' y x = false := fun x y z => by
    rw [hb] at z ⊢
    exact asy _ _ z
  refine size_same h h' (fun c hc => ?_) (fun c hc => ?_)
  · obtain ⟨c', h1, h2⟩ := ring_of_cyc irr' asy' (cyc_turn hb hc.cyc)
    exact ⟨c', h1, by rw [h2, List.length_reverse]⟩
  · obtain ⟨c', h1, h2⟩ := ring_of_cyc irr asy (cyc_turn (fun x y => (hb y x).symm) hc.cyc)
    exact ⟨c', h1, by rw [h2, List.length_reverse]⟩
/-- as long, where the shortest one stands there, too -/
theorem size_less {c : List Int} {o' : Option (List Int)} (h : IsRing b S (some c)) (h' : IsRing b' S' o') (k : ∃ c', RingAt b' S' c' ∧ c'.length = c.length) (k' : ∀ c, RingAt b' S' c → ∃ c', RingAt b S c' ∧ c'.length = c.length) : sizeO o' = c.length := by
  obtain ⟨d, hd, ld⟩ := k
  cases o' with
  | none => exact absurd hd (h' d)
  | some c' =>
    obtain ⟨d', hd', ld'⟩ := k' c' h'.1
    have h1 := (h'.2 d hd).1
    have h2 := (h.2 d' hd').1
    show c'.length = c.length
    omega
end
/-! ### the dice changed -/
theorem getD_map {f : List Int → List Int} (h0 : f [] = []) (dss : List (List Int)) (k : Nat) : (dss.map f).getD k [] = f (dss.getD k []) := by
  rw [List.getD_eq_getElem?_getD, List.getD_eq_getElem?_getD, List.getElem?_map]
  cases dss[k]? with
  | none => exact h0.symm
  | some d => rfl
theorem place_lift (l : Int) (dss : List (List Int)) : placeB (dss.map fun d => d.map (· + l)) = placeB dss := by
  funext i j
  unfold placeB beatsB
  rw [getD_map (f := fun d => d.map (· + l)) rfl, getD_map (f := fun d => d.map (· + l)) rfl, above_lift, above_lift]
theorem place_turn (m : Int) (dss : List (List Int)) (i j : Int) : placeB (dss.map fun d => d.map (m - ·)) i j = placeB dss j i := by
  unfold placeB beatsB
  rw [getD_map (f := fun d => d.map (m - ·)) rfl, getD_map (f := fun d => d.map (m - ·)) rfl, above_turn, above_turn]
def upP (x i : Int) : Int := if i < x then i else i + 1
def downP (x i : Int) : Int := if i < x then i else i - 1
theorem less_get (dss : List (List Int)) {x : Nat} {i : Int} (h0 : 0 ≤ i) (hx : x < dss.length) : (dss.take x ++ dss.drop (x + 1)).getD i.toNat [] = dss.getD (upP (x : Int) i).toNat [] := by
  rw [List.getD_eq_getElem?_getD, List.getD_eq_getElem?_getD]
  congr 1
  unfold upP
  have lt : (dss.take x).length = x := by
    rw [List.length_take]
    omega
  by_cases c : i < (x : Int)
  · rw [if_pos c, List.getElem?_append_left (by omega), List.getElem?_take_of_lt (by omega)]
  · rw [if_neg c, List.getElem?_append_right (by omega), lt, List.getElem?_drop]
    congr 1
    omega
theorem place_less (dss : List (List Int)) {x : Nat} (hx : x < dss.length) {i j : Int} (hi : 0 ≤ i) (hj : 0 ≤ j) : placeB (dss.take x ++ dss.drop (x + 1)) i j = placeB dss (upP x i) (upP x j) := by
  unfold placeB
  rw [less_get dss hi hx, less_get dss hj hx]
theorem ring_less {dss : List (List Int)} {x : Nat} {c : List Int} {o' : Option (List Int)} (hx : x < dss.length) (h : IsRing (placeB dss) (rangeV 0 dss.length) (some c)) (hc : (x : Int) ∉ c)
    (h' : IsRing (placeB (dss.take x ++ dss.drop (x + 1))) (rangeV 0 (dss.length - 1)) o') : sizeO o' = c.length := by
  have hin : ∀ i ∈ c, 0 ≤ i ∧ i < (dss.length : Int) := fun i hi => by
    have := rangeV_mem.mp (h.1.cyc.inn i hi)
    omega
  have hne : ∀ i ∈ c, i ≠ (x : Int) := fun i hi z => hc (z ▸ hi)
  have ud : ∀ i ∈ c, upP x (downP x i) = i := fun i hi => by
    have := hne i hi
    unfold upP downP
    by_cases c : i < (x : Int)
    · rw [if_pos c, if_pos c]
    · rw [if_neg c, if_neg (by omega)]
      omega
  have d0 : ∀ i ∈ c, 0 ≤ downP x i ∧ downP x i < ((dss.length - 1 : Nat) : Int) := fun i hi => by
    have := hne i hi
    have := hin i hi
    unfold downP
    split <;> omega
  refine size_less h h' ?_ fun c' hc' => ?_
  · have cy : Cyc (placeB (dss.take x ++ dss.drop (x + 1))) (rangeV 0 (dss.length - 1)) (c.map (downP x)) := by
      refine cyc_map (downP x) (fun i hi j hj e => ?_) (fun i hi => rangeV_mem.mpr (by have := d0 i hi; omega)) (fun i hi j hj e => ?_) h.1.cyc
      · rw [← ud i hi, e, ud j hj]
      · rw [place_less dss hx (d0 i hi).1 (d0 j hj).1, ud i hi, ud j hj]
        exact e
    obtain ⟨c2, h1, h2⟩ := ring_of_cyc (place_irr _) (place_asy _) cy
    exact ⟨c2, h1, by rw [h2, List.length_map]⟩
  · have hin' : ∀ i ∈ c', 0 ≤ i ∧ i < ((dss.length - 1 : Nat) : Int) := fun i hi => by
      have := rangeV_mem.mp (hc'.cyc.inn i hi)
      omega
    have cy : Cyc (placeB dss) (rangeV 0 dss.length) (c'.map (upP x)) := by
      refine cyc_map (upP x) (fun i hi j hj e => ?_) (fun i hi => rangeV_mem.mpr ?_) (fun i hi j hj e => ?_) hc'.cyc
      · unfold upP at e
        split at e <;> split at e <;> omega
      · have := hin' i hi
        unfold upP
        split <;> omega
      · rw [← place_less dss hx (hin' i hi).1 (hin' j hj).1]
        exact e
    obtain ⟨c2, h1, h2⟩ := ring_of_cyc (place_irr _) (place_asy _) cy
    exact ⟨c2, h1, by rw [h2, List.length_map]⟩
end My

namespace My
open PySem PySem.Spec PyProof.Rows L2
open PySem.W (Datum Tup)
theorem pe_same {X : Cx} {e : Expr} {t t' : TE} (h : PE X e t) (e' : t = t') : PE X e t' := e' ▸ h
theorem pi_same {X : Cx} {tg l : Expr} {t t' : TI} (h : PI X tg l t) (e' : t = t') : PI X tg l t' := e' ▸ h
/-! ### the text -/
def topS (i : Nat) : Stmt := PySem.Challenge.pw_dicepairs_k06_whole_ring_or_ranks.main.body.getD i (.Pass ⟨0, 0, 0, 0⟩)
abbrev st_is_number : Stmt := topS 7
abbrev nm_is_number : List Str := ["thing"]
theorem sc_is_number : FnScope nm_is_number ["thing"] (defScope st_is_number) := ⟨rfl, rfl, rfl, by decide +kernel, rfl, by decide +kernel, by decide +kernel⟩
abbrev st_is_face : Stmt := topS 8
abbrev nm_is_face : List Str := ["thing"]
theorem sc_is_face : FnScope nm_is_face ["thing"] (defScope st_is_face) := ⟨rfl, rfl, rfl, by decide +kernel, rfl, by decide +kernel, by decide +kernel⟩
abbrev st_is_die : Stmt := topS 9
abbrev nm_is_die : List Str := ["thing", "face"]
theorem sc_is_die : FnScope nm_is_die ["thing"] (defScope st_is_die) := ⟨rfl, rfl, rfl, by decide +kernel, rfl, by decide +kernel, by decide +kernel⟩
abbrev st_need_die : Stmt := topS 10
abbrev nm_need_die : List Str := ["thing"]
theorem sc_need_die : FnScope nm_need_die ["thing"] (defScope st_need_die) := ⟨rfl, rfl, rfl, by decide +kernel, rfl, by decide +kernel, by decide +kernel⟩
abbrev st_need_dice : Stmt := topS 11
abbrev nm_need_dice : List Str := ["thing", "most", "die"]
theorem sc_need_dice : FnScope nm_need_dice ["thing", "most"] (defScope st_need_dice) := ⟨rfl, rfl, rfl, by decide +kernel, rfl, by decide +kernel, by decide +kernel⟩
abbrev st_beats : Stmt := topS 13
abbrev nm_beats : List Str := ["one", "other"]
theorem sc_beats : FnScope nm_beats ["one", "other"] (defScope st_beats) := ⟨rfl, rfl, rfl, by decide +kernel, rfl, by decide +kernel, by decide +kernel⟩
abbrev st_throws_above : Stmt := topS 14
abbrev nm_throws_above : List Str := ["one", "other", "face", "against"]
theorem sc_throws_above : FnScope nm_throws_above ["one", "other"] (defScope st_throws_above) := ⟨rfl, rfl, rfl, by decide +kernel, rfl, by decide +kernel, by decide +kernel⟩
abbrev st_ring : Stmt := topS 18
abbrev nm_ring : List Str := ["dice", "beaten", "length", "start", "found"]
theorem sc_ring : FnScope nm_ring ["dice"] (defScope st_ring) := ⟨rfl, rfl, rfl, by decide +kernel, rfl, by decide +kernel, by decide +kernel⟩
abbrev st_ranks : Stmt := topS 19
abbrev nm_ranks : List Str := ["dice", "beaten", "left", "row", "unbeaten", "place", "other"]
theorem sc_ranks : FnScope nm_ranks ["dice"] (defScope st_ranks) := ⟨rfl, rfl, rfl, by decide +kernel, rfl, by decide +kernel, by decide +kernel⟩
abbrev st_beaten_places : Stmt := topS 20
abbrev nm_beaten_places : List Str := ["dice", "die", "place", "other"]
theorem sc_beaten_places : FnScope nm_beaten_places ["dice"] (defScope st_beaten_places) := ⟨rfl, rfl, rfl, by decide +kernel, rfl, by decide +kernel, by decide +kernel⟩
abbrev st_ring_from : Stmt := topS 21
abbrev nm_ring_from : List Str := ["row", "length", "beaten", "place", "found"]
theorem sc_ring_from : FnScope nm_ring_from ["row", "length", "beaten"] (defScope st_ring_from) := ⟨rfl, rfl, rfl, by decide +kernel, rfl, by decide +kernel, by decide +kernel⟩
abbrev st_law_draw : Stmt := topS 23
abbrev nm_law_draw : List Str := ["_law_script", "_law_k", "_law_cell", "_law_number"]
theorem sc_law_draw : FnScope nm_law_draw ["_law_script", "_law_k"] (defScope st_law_draw) := ⟨rfl, rfl, rfl, by decide +kernel, rfl, by decide +kernel, by decide +kernel⟩
abbrev st_law_die : Stmt := topS 24
abbrev nm_law_die : List Str := ["_law_script", "_law_k", "_law_most", "_law_top", "_law_number", "_law_found", "_law_j", "_law_face"]
theorem sc_law_die : FnScope nm_law_die ["_law_script", "_law_k", "_law_most", "_law_top"] (defScope st_law_die) := ⟨rfl, rfl, rfl, by decide +kernel, rfl, by decide +kernel, by decide +kernel⟩
abbrev st_law_beats : Stmt := topS 25
abbrev nm_law_beats : List Str := ["_law_one", "_law_other", "_law_more", "_law_face", "_law_against"]
theorem sc_law_beats : FnScope nm_law_beats ["_law_one", "_law_other"] (defScope st_law_beats) := ⟨rfl, rfl, rfl, by decide +kernel, rfl, by decide +kernel, by decide +kernel⟩
abbrev st_law_dice : Stmt := topS 26
abbrev nm_law_dice : List Str := ["_law_script", "_law_number", "_law_dice_here", "_law_by", "_law_round_about", "_law_turn", "_law_k", "_law_die_here", "_law_face"]
theorem sc_law_dice : FnScope nm_law_dice ["_law_script"] (defScope st_law_dice) := ⟨rfl, rfl, rfl, by decide +kernel, rfl, by decide +kernel, by decide +kernel⟩
abbrev st_law_is_ring : Stmt := topS 27
abbrev nm_law_is_ring : List Str := ["_law_dice_here", "_law_found", "_law_place", "_law_later"]
theorem sc_law_is_ring : FnScope nm_law_is_ring ["_law_dice_here", "_law_found"] (defScope st_law_is_ring) := ⟨rfl, rfl, rfl, by decide +kernel, rfl, by decide +kernel, by decide +kernel⟩
abbrev st_law_are_ranks : Stmt := topS 28
abbrev nm_law_are_ranks : List Str := ["_law_dice_here", "_law_found", "_law_k", "_law_place", "_law_other"]
theorem sc_law_are_ranks : FnScope nm_law_are_ranks ["_law_dice_here", "_law_found"] (defScope st_law_are_ranks) := ⟨rfl, rfl, rfl, by decide +kernel, rfl, by decide +kernel, by decide +kernel⟩
abbrev st_law_right : Stmt := topS 29
abbrev nm_law_right : List Str := ["_law_dice_here", "_law_told", "_law_order"]
theorem sc_law_right : FnScope nm_law_right ["_law_dice_here"] (defScope st_law_right) := ⟨rfl, rfl, rfl, by decide +kernel, rfl, by decide +kernel, by decide +kernel⟩
abbrev st_law : Stmt := topS 30
abbrev nm_law : List Str := ["_law_script", "_law_dice_here", "_law_size", "_law_lift", "_law_told", "_law_place", "_law_out", "_law_die_here", "_law_face"]
theorem sc_law : FnScope nm_law ["_law_script"] (defScope st_law) := ⟨rfl, rfl, rfl, by decide +kernel, rfl, by decide +kernel, by decide +kernel⟩
/-! ### what the top has written -/
structure Lay (K : PySem.W.Frag) (mg : Str → Option Value) where
  n_isinstance : mg "isinstance" = none
  n_int : mg "int" = none
  n_bool : mg "bool" = none
  n_list : mg "list" = none
  n_len : mg "len" = none
  n_all : mg "all" = none
  n_range : mg "range" = none
  n_sum : mg "sum" = none
  n_set : mg "set" = none
  n_min : mg "min" = none
  n_zip : mg "zip" = none
  n_sorted : mg "sorted" = none
  n_enumerate : mg "enumerate" = none
  n_any : mg "any" = none
  n_ValueError : mg "ValueError" = none
  t_MOST_FACES : Tok
  c_MOST_FACES : mg "MOST_FACES" = some (.int 8 t_MOST_FACES)
  t_GREATEST_FACE : Tok
  c_GREATEST_FACE : mg "GREATEST_FACE" = some (.int 99 t_GREATEST_FACE)
  t_MOST_PLACES : Tok
  c_MOST_PLACES : mg "MOST_PLACES" = some (.int 8 t_MOST_PLACES)
  t_LEAST_RING : Tok
  c_LEAST_RING : mg "LEAST_RING" = some (.int 3 t_LEAST_RING)
  a_DiceError : Addr
  g_DiceError : mg "DiceError" = some (.ref a_DiceError)
  x_DiceError : ExFacts K a_DiceError
  a_BadDie : Addr
  g_BadDie : mg "BadDie" = some (.ref a_BadDie)
  x_BadDie : ExFacts K a_BadDie
  a_BadDice : Addr
  g_BadDice : mg "BadDice" = some (.ref a_BadDice)
  x_BadDice : ExFacts K a_BadDice
  s_BadDie_DiceError : PySem.W.kitOne K (.ref a_BadDie) (.ref a_DiceError) = some true
  e_BadDie_DiceError : PySem.W.subIn K (.ref a_BadDie) (.ref a_DiceError) = some true
  s_BadDie_BadDie : PySem.W.kitOne K (.ref a_BadDie) (.ref a_BadDie) = some true
  e_BadDie_BadDie : PySem.W.subIn K (.ref a_BadDie) (.ref a_BadDie) = some true
  s_BadDie_BadDice : PySem.W.kitOne K (.ref a_BadDie) (.ref a_BadDice) = some false
  e_BadDie_BadDice : PySem.W.subIn K (.ref a_BadDie) (.ref a_BadDice) = some false
  s_BadDice_DiceError : PySem.W.kitOne K (.ref a_BadDice) (.ref a_DiceError) = some true
  e_BadDice_DiceError : PySem.W.subIn K (.ref a_BadDice) (.ref a_DiceError) = some true
  s_BadDice_BadDie : PySem.W.kitOne K (.ref a_BadDice) (.ref a_BadDie) = some false
  e_BadDice_BadDie : PySem.W.subIn K (.ref a_BadDice) (.ref a_BadDie) = some false
  s_BadDice_BadDice : PySem.W.kitOne K (.ref a_BadDice) (.ref a_BadDice) = some true
  e_BadDice_BadDice : PySem.W.subIn K (.ref a_BadDice) (.ref a_BadDice) = some true
  z_DiceError : PySem.W.kitOne K (.type "NoneType") (.ref a_DiceError) = some false
  v_DiceError : PySem.W.kitOne K (.ref a_DiceError) (.type "ValueError") = some true
  z_BadDie : PySem.W.kitOne K (.type "NoneType") (.ref a_BadDie) = some false
  v_BadDie : PySem.W.kitOne K (.ref a_BadDie) (.type "ValueError") = some true
  z_BadDice : PySem.W.kitOne K (.type "NoneType") (.ref a_BadDice) = some false
  v_BadDice : PySem.W.kitOne K (.ref a_BadDice) (.type "ValueError") = some true
  a_is_number : Addr
  d_is_number : FuncData
  g_is_number : mg "is_number" = some (.ref a_is_number)
  f_is_number : Fun K "is_number" "is_number" st_is_number a_is_number d_is_number
  b_is_number : Binds K d_is_number ["thing"] []
  a_is_face : Addr
  d_is_face : FuncData
  g_is_face : mg "is_face" = some (.ref a_is_face)
  f_is_face : Fun K "is_face" "is_face" st_is_face a_is_face d_is_face
  b_is_face : Binds K d_is_face ["thing"] []
  a_is_die : Addr
  d_is_die : FuncData
  g_is_die : mg "is_die" = some (.ref a_is_die)
  f_is_die : Fun K "is_die" "is_die" st_is_die a_is_die d_is_die
  b_is_die : Binds K d_is_die ["thing"] []
  a_need_die : Addr
  d_need_die : FuncData
  g_need_die : mg "need_die" = some (.ref a_need_die)
  f_need_die : Fun K "need_die" "need_die" st_need_die a_need_die d_need_die
  b_need_die : Binds K d_need_die ["thing"] []
  a_need_dice : Addr
  d_need_dice : FuncData
  g_need_dice : mg "need_dice" = some (.ref a_need_dice)
  f_need_dice : Fun K "need_dice" "need_dice" st_need_dice a_need_dice d_need_dice
  b_need_dice : Binds K d_need_dice ["thing", "most"] []
  a_beats : Addr
  d_beats : FuncData
  g_beats : mg "beats" = some (.ref a_beats)
  f_beats : Fun K "beats" "beats" st_beats a_beats d_beats
  b_beats : Binds K d_beats ["one", "other"] []
  a_throws_above : Addr
  d_throws_above : FuncData
  g_throws_above : mg "throws_above" = some (.ref a_throws_above)
  f_throws_above : Fun K "throws_above" "throws_above" st_throws_above a_throws_above d_throws_above
  b_throws_above : Binds K d_throws_above ["one", "other"] []
  a_ring : Addr
  d_ring : FuncData
  g_ring : mg "ring" = some (.ref a_ring)
  f_ring : Fun K "ring" "ring" st_ring a_ring d_ring
  b_ring : Binds K d_ring ["dice"] []
  a_ranks : Addr
  d_ranks : FuncData
  g_ranks : mg "ranks" = some (.ref a_ranks)
  f_ranks : Fun K "ranks" "ranks" st_ranks a_ranks d_ranks
  b_ranks : Binds K d_ranks ["dice"] []
  a_beaten_places : Addr
  d_beaten_places : FuncData
  g_beaten_places : mg "beaten_places" = some (.ref a_beaten_places)
  f_beaten_places : Fun K "beaten_places" "beaten_places" st_beaten_places a_beaten_places d_beaten_places
  b_beaten_places : Binds K d_beaten_places ["dice"] []
  a_ring_from : Addr
  d_ring_from : FuncData
  g_ring_from : mg "ring_from" = some (.ref a_ring_from)
  f_ring_from : Fun K "ring_from" "ring_from" st_ring_from a_ring_from d_ring_from
  b_ring_from : Binds K d_ring_from ["row", "length", "beaten"] []
  a_law_draw : Addr
  d_law_draw : FuncData
  g_law_draw : mg "_law_draw" = some (.ref a_law_draw)
  f_law_draw : Fun K "_law_draw" "_law_draw" st_law_draw a_law_draw d_law_draw
  b_law_draw : Binds K d_law_draw ["_law_script", "_law_k"] []
  a_law_die : Addr
  d_law_die : FuncData
  g_law_die : mg "_law_die" = some (.ref a_law_die)
  f_law_die : Fun K "_law_die" "_law_die" st_law_die a_law_die d_law_die
  b_law_die : Binds K d_law_die ["_law_script", "_law_k", "_law_most", "_law_top"] []
  a_law_beats : Addr
  d_law_beats : FuncData
  g_law_beats : mg "_law_beats" = some (.ref a_law_beats)
  f_law_beats : Fun K "_law_beats" "_law_beats" st_law_beats a_law_beats d_law_beats
  b_law_beats : Binds K d_law_beats ["_law_one", "_law_other"] []
  a_law_dice : Addr
  d_law_dice : FuncData
  g_law_dice : mg "_law_dice" = some (.ref a_law_dice)
  f_law_dice : Fun K "_law_dice" "_law_dice" st_law_dice a_law_dice d_law_dice
  b_law_dice : Binds K d_law_dice ["_law_script"] []
  a_law_is_ring : Addr
  d_law_is_ring : FuncData
  g_law_is_ring : mg "_law_is_ring" = some (.ref a_law_is_ring)
  f_law_is_ring : Fun K "_law_is_ring" "_law_is_ring" st_law_is_ring a_law_is_ring d_law_is_ring
  b_law_is_ring : Binds K d_law_is_ring ["_law_dice_here", "_law_found"] []
  a_law_are_ranks : Addr
  d_law_are_ranks : FuncData
  g_law_are_ranks : mg "_law_are_ranks" = some (.ref a_law_are_ranks)
  f_law_are_ranks : Fun K "_law_are_ranks" "_law_are_ranks" st_law_are_ranks a_law_are_ranks d_law_are_ranks
  b_law_are_ranks : Binds K d_law_are_ranks ["_law_dice_here", "_law_found"] []
  a_law_right : Addr
  d_law_right : FuncData
  g_law_right : mg "_law_right" = some (.ref a_law_right)
  f_law_right : Fun K "_law_right" "_law_right" st_law_right a_law_right d_law_right
  b_law_right : Binds K d_law_right ["_law_dice_here"] []
  a_law : Addr
  d_law : FuncData
  g_law : mg "law" = some (.ref a_law)
  f_law : Fun K "law" "law" st_law a_law d_law
  b_law : Binds K d_law ["_law_script"] []
/-! ### plain functions: draws, dice -/
def cellN (ns : List Int) (k : Int) : Int := if ns = [] then 0 else 31 * ns.sum + ns.getD (k % (ns.length : Int)).toNat 0
def drawN (ns : List Int) (k : Int) : Int :=
  (cellN ns k % 1000000007 + 7919 * k + 13) * (cellN ns k % 1000000007 + 7919 * k + 13) % 1000000007 * (cellN ns k % 1000000007 + 7919 * k + 13) % 998244353 / 11
theorem draw_range (ns : List Int) (k : Int) : 0 ≤ drawN ns k ∧ drawN ns k < 90749487 := by
  unfold drawN
  generalize (cellN ns k % 1000000007 + 7919 * k + 13) * (cellN ns k % 1000000007 + 7919 * k + 13) % 1000000007 * (cellN ns k % 1000000007 + 7919 * k + 13) = z
  omega
def faceN (ns : List Int) (k top num : Int) (found : List Int) (j : Int) : Int :=
  if found ≠ [] ∧ num / 16 % 4 = 1 ∧ drawN ns (k + 1 + j) % (top + 1) % 3 = 0 then found.getD 0 0 else drawN ns (k + 1 + j) % (top + 1)
def dieFold (ns : List Int) (k top num : Int) : Nat → List Int
  | 0 => []
  | m + 1 => dieFold ns k top num m ++ [faceN ns k top num (dieFold ns k top num m) m]
def dieL (ns : List Int) (k most top : Int) : List Int := dieFold ns k top (drawN ns k) (1 + drawN ns k % most).toNat
theorem dieFold_len (ns : List Int) (k top num : Int) : ∀ m, (dieFold ns k top num m).length = m
  | 0 => rfl
  | m + 1 => by
    rw [dieFold, List.length_append, dieFold_len ns k top num m]
    rfl
theorem getD_mem0 {l : List Int} (h : l ≠ []) : l.getD 0 0 ∈ l := by
  cases l with
  | nil => exact absurd rfl h
  | cons a r => exact List.mem_cons_self
theorem dieFold_mem (ns : List Int) {k top num : Int} (ht : 0 ≤ top) : ∀ m, ∀ f ∈ dieFold ns k top num m, 0 ≤ f ∧ f ≤ top
  | 0, f, h => by simp [dieFold] at h
  | m + 1, f, h => by
    rw [dieFold] at h
    have ih := dieFold_mem ns (k := k) (num := num) ht m
    have p : 0 ≤ drawN ns (k + 1 + m) % (top + 1) ∧ drawN ns (k + 1 + m) % (top + 1) ≤ top :=
      ⟨Int.emod_nonneg _ (by omega), by have := Int.emod_lt_of_pos (drawN ns (k + 1 + m)) (show 0 < top + 1 by omega); omega⟩
    rcases List.mem_append.mp h with q | q
    · exact ih f q
    · rw [List.mem_singleton.mp q, faceN]
      split
      · rename_i c
        exact ih _ (getD_mem0 c.1)
      · exact p
theorem dieL_len (ns : List Int) (k top : Int) {most : Int} (hm : 0 < most) : 1 ≤ (dieL ns k most top).length ∧ ((dieL ns k most top).length : Int) ≤ most := by
  have h1 := Int.emod_nonneg (drawN ns k) (show most ≠ 0 by omega)
  have h2 := Int.emod_lt_of_pos (drawN ns k) hm
  unfold dieL
  rw [dieFold_len]
  omega
theorem dieL_mem (ns : List Int) {k most top : Int} (ht : 0 ≤ top) : ∀ f ∈ dieL ns k most top, 0 ≤ f ∧ f ≤ top := dieFold_mem ns ht _
section
variable {P : Program} {w : World} {K : PySem.W.Frag} {mg : Str → Option Value} {base : Heap}
/-! ### numbers, faces, dice -/
def spNumber : Sp := fun vs H Q _ => ∃ v n, vs = [v] ∧ Kd H v n ∧ Q (.bl (isNum v)) H
theorem num_read {D : Ends} {σ : L2.St} {H : Hp} {v : V} {n : String} {Q : VK} (hk : Kd H v n) (q : Q (.bl (isNum v)) H) :
    ∃ c, V.bl (isIntB v) = .bl c ∧ if c = true then (∃ (x c : V) (t u : Value) (b : Bool), [v, .ty "bool"] = [x, c] ∧ ClsV c u ∧ TyX K H x t ∧ PySem.W.kitOne K t u = some b ∧ ∃ c, V.bl b = .bl c ∧ Q (.bl (!c)) H) else Q (.bl false) H := by
  refine ⟨_, rfl, ?_⟩
  cases hk with
  | int i => exact iteT ⟨_, _, _, _, _, rfl, .ty _, (Kd.int i).ty, kit_ty (Kd.int (H := H) i).kBool, _, rfl, q⟩
  | bl b => exact iteT ⟨_, _, _, _, _, rfl, .ty _, (Kd.bl b).ty, kit_ty (Kd.bl (H := H) b).kBool, _, rfl, q⟩
  | _ => exact iteF q
theorem ok_is_number (T : Lay K mg) : FnOk P w K mg base CX0 1 T.a_is_number T.d_is_number ["thing"] spNumber := by
  refine T.f_is_number.ok sc_is_number (fun vs H Q E h => ?_) (fun cdv A outer s H vs Q E hr h => ?_)
  · obtain ⟨v, n, rfl, _⟩ := h
    rfl
  · obtain ⟨v, n, rfl, hk, q⟩ := h
    refine ⟨_, (pss_one (ps_ret (pe_and (pe_callB call_isi (by rfl) T.n_isinstance (by decide +kernel) (pa_cons (pv 0) (pa_cons (pe_bltn (v := .ty "int") (by rfl) T.n_int (by decide +kernel) rfl) pa_nil))) (pe_one (pe_not (pe_callB call_isi (by rfl) T.n_isinstance (by decide +kernel) (pa_cons (pv 0) (pa_cons (pe_bltn (v := .ty "bool") (by rfl) T.n_bool (by decide +kernel) rfl) pa_nil)))))))), ?_⟩
    exact ⟨v, rfl, _, _, _, _, _, rfl, .ty _, hk.ty, kit_ty hk.kInt, by
      obtain ⟨c, e, h⟩ := num_read (K := K) (D := { nx := fun _ _ => True, rt := fun _ _ => True }) (σ := []) hk q
      refine ⟨c, e, ?_⟩
      cases c with
      | true => exact iteT ⟨v, rfl, (if_pos rfl).mp h⟩
      | false => exact iteF ((if_neg Bool.false_ne_true).mp h)⟩
def faceB : V → Bool
  | .int i => decide (0 ≤ i) && decide (i ≤ 99)
  | _ => false
def spFace : Sp := fun vs H Q _ => ∃ v n, vs = [v] ∧ Kd H v n ∧ Q (.bl (faceB v)) H
theorem ok_is_face (T : Lay K mg) : FnOk P w K mg base CX0 2 T.a_is_face T.d_is_face ["thing"] spFace := by
  refine T.f_is_face.ok sc_is_face (fun vs H Q E h => ?_) (fun cdv A outer s H vs Q E hr h => ?_)
  · obtain ⟨v, n, rfl, _⟩ := h
    rfl
  · obtain ⟨v, n, rfl, hk, q⟩ := h
    refine ⟨_, (pss_one (ps_ret (pe_and (pe_call (ok_is_number T) (hr.mono (by decide)) (by rfl) T.g_is_number T.f_is_number.kp T.b_is_number .nil pass0 (pa_cons (pv 0) pa_nil)) (pe_one (pe_chain op_le op_le pe_int (pv 0) (pe_glob (v := .int 99) rfl T.c_GREATEST_FACE ⟨_, rfl⟩)))))), ?_⟩
    refine ⟨v, rfl, v, n, rfl, hk, _, rfl, ?_⟩
    cases hk with
    | int i =>
      refine iteT ⟨.int i, rfl, 0, i, rfl, rfl, _, rfl, iteD (fun h0 => ?_) (fun h0 => ?_)⟩
      · refine ⟨i, 99, rfl, rfl, ?_⟩
        have e : faceB (.int i) = decide (i ≤ 99) := by simp [faceB, h0]
        rw [e] at q
        exact q
      · have e : faceB (.int i) = false := by simp [faceB, h0]
        rw [e] at q
        exact q
    | _ => exact iteF q
def dieB (xs : List V) : Bool := decide (1 ≤ xs.length) && decide (xs.length ≤ 8) && xs.all faceB
def dieV (H : Hp) (v : V) : Bool := match lstOf H v with
  | some xs => dieB xs
  | none => false
/-- what a thing may be that is asked: its kind is known, and the kinds of a list's items -/
structure Thing (H : Hp) (v : V) : Prop where
  kd : ∃ n, Kd H v n
  all : ∀ xs, lstOf H v = some xs → ∀ x ∈ xs, ∃ m, Kd H x m
def spIsDie : Sp := fun vs H Q _ => ∃ v, vs = [v] ∧ Thing H v ∧ ∀ H', Same H H' → Q (.bl (dieV H v)) H'
theorem all_map {xs : List V} {p : V → Bool} : (xs.map p).all id = xs.all p := by
  rw [List.all_map]
  rfl
theorem ok_is_die (T : Lay K mg) : FnOk P w K mg base CX0 3 T.a_is_die T.d_is_die ["thing"] spIsDie := by
  refine T.f_is_die.ok sc_is_die (fun vs H Q E h => ?_) (fun cdv A outer s H vs Q E hr h => ?_)
  · obtain ⟨v, rfl, _⟩ := h
    rfl
  · obtain ⟨v, rfl, ⟨⟨n, hk⟩, hall⟩, q⟩ := h
    refine ⟨_, (pss_cons (ps_if (PW.pt (pw_or (pt_not (pt_val (pe_callB call_isi (by rfl) T.n_isinstance (by decide +kernel) (pa_cons (pv 0) (pa_cons (pe_bltn (v := .ty "list") (by rfl) T.n_list (by decide +kernel) rfl) pa_nil))))) (pw_or1 (pt_not (pt_chain op_le op_le pe_int (pe_callB call_len_seq (by rfl) T.n_len PySem.boot_len (pa_cons (pv 0) pa_nil)) (pe_glob (v := .int 8) rfl T.c_MOST_FACES ⟨_, rfl⟩)))))) (pss_one (ps_ret pe_bl)) pss_nil)
    (pss_one (ps_ret (pe_callB (cr_all rfl) (by rfl) T.n_all (by decide +kernel) (pa_cons (pe_lc (own := [("face", 1)]) (g := (gName 1)) rfl sc_is_die.nd (pi_list (pv 0)) (blkOk_by (N := nm_is_die) (sc := defScope st_is_die) (by decide +kernel)) (fun _ _ _ _ _ => (pg_name (i := 1) sc_is_die.nd rfl (Or.inl rfl))) (fun _ _ _ _ _ => pts_nil) (fun _ _ _ _ _ => (pe_call (ok_is_face T) (hr.mono (by decide)) (by rfl) T.g_is_face T.f_is_face.kp T.b_is_face .nil pass0 (pa_cons (pv 1) pa_nil)))) pa_nil))))), ?_⟩
    cases hl : lstOf H v with
    | none =>
      have e : dieV H v = false := by unfold dieV; rw [hl]
      rw [e] at q
      exact ⟨v, rfl, v, _, _, _, _, rfl, .ty _, hk.ty, kit_ty (hk.kListN hl), _, rfl, iteT (iteT (q H (Same.refl H)))⟩
    | some xs =>
      have ed : dieV H v = dieB xs := by unfold dieV; rw [hl]
      rw [ed] at q
      obtain ⟨a, rfl, ha⟩ := lstOf_some hl
      refine ⟨.ref a, rfl, .ref a, _, _, _, _, rfl, .ty _, hk.ty, kit_ty (hk.kListS hl), _, rfl, iteF ?_⟩
      refine ⟨.ref a, rfl, a, xs, rfl, .inl (sq_of ha), 1, _, rfl, rfl, _, rfl, iteD (fun h1 => ?_) (fun h1 => ?_)⟩
      · refine ⟨_, 8, rfl, rfl, _, rfl, ?_⟩
        by_cases h2 : (xs.length : Int) ≤ 8
        · rw [decide_eq_true h2]
          refine iteF ?_
          -- all([is_face(face) for face in thing])
          refine ⟨.ref a, rfl, a, rfl, ⟨xs, sq_of ha⟩, fun D nD => ?_⟩
          refine lc_all (K := K) (fun x => .bl (faceB x)) nD (sq_of ha) (by omega) (fun x H' R hx e r N => ?_) (fun H' e hD => ?_)
          · obtain ⟨m, km⟩ := hall xs hl x hx
            exact ⟨rfl, iteT (B := N H') ⟨x, rfl, x, m, rfl, km.mono e, r H' (Same.refl H')⟩⟩
          · refine ⟨D, xs.map faceB, rfl, ?_, ?_⟩
            · rw [List.map_map]
              exact sq_of hD
            · have e2 : dieB xs = xs.all faceB := by
                have h3 : 1 ≤ xs.length := by omega
                have h4 : xs.length ≤ 8 := by omega
                simp [dieB, h3, h4]
              rw [e2] at q
              rw [all_map]
              exact q H' e
        · rw [decide_eq_false h2]
          have e2 : dieB xs = false := by
            have h4 : ¬ xs.length ≤ 8 := by omega
            simp [dieB, h4]
          rw [e2] at q
          exact iteT (q H (Same.refl H))
      · have e2 : dieB xs = false := by
          have h4 : ¬ 1 ≤ xs.length := by omega
          simp [dieB, h4]
        rw [e2] at q
        exact ⟨_, rfl, iteT (q H (Same.refl H))⟩
/-! ### a refusal, shares -/
def spNeedDie (K : PySem.W.Frag) (C : Addr) : Sp := fun vs H Q E => ∃ v, vs = [v] ∧ Thing H v ∧ (dieV H v = true → ∀ H', Same H H' → Q .non H') ∧ (dieV H v = false → ∀ H', Same H H' → E (.ref C) none H')
theorem ok_need_die (T : Lay K mg) : FnOk P w K mg base (L2.CX P w) 4 T.a_need_die T.d_need_die ["thing"] (spNeedDie K T.a_BadDie) := by
  refine T.f_need_die.okX sc_need_die (fun vs H Q E h => ?_) (fun cdv A outer s H vs Q E hr h => ?_)
  · obtain ⟨v, rfl, _⟩ := h
    rfl
  · obtain ⟨v, rfl, th, q1, q2⟩ := h
    refine ⟨_, (pss_one (ps_if (pt_not (pt_val (pe_call (ok_is_die T) (hr.mono (by decide)) (by rfl) T.g_is_die T.f_is_die.kp T.b_is_die .nil pass0 (pa_cons (pv 0) pa_nil)))) (pss_one (ps_raise rfl (takes_of rfl rfl rfl rfl) (SkE.pmk_own1 PySem.F.excBase_ValueError T.x_BadDie.x T.g_BadDie T.x_BadDie.k (raises_own T.x_BadDie.b T.x_BadDie.t) rfl (pe_joined (PJ.cons pe_str (PJ.cons (pe_fmt (pe_glob (v := .int 8) rfl T.c_MOST_FACES ⟨_, rfl⟩)) (PJ.cons pe_str (PJ.cons (pe_fmt (pe_glob (v := .int 99) rfl T.c_GREATEST_FACE ⟨_, rfl⟩)) PJ.nil)))))))) pss_nil)), ?_⟩
    refine ⟨v, rfl, v, rfl, th, fun H1 e1 => ⟨_, rfl, ?_⟩⟩
    cases hd : dieV H v with
    | true => exact iteF (q1 hd H1 e1)
    | false =>
      refine iteT ?_
      refine ⟨_, rfl, by decide +kernel, .inr ⟨8, rfl, by decide +kernel, _, rfl, by decide +kernel, _, rfl, by decide +kernel, .inr ⟨99, rfl, by decide +kernel, _, rfl, by decide +kernel, ?_⟩⟩⟩
      exact q2 hd H1 e1
/-! ### dice -/
/-! ### things in a later heap -/
theorem lstOf_same {H H' : Hp} {v : V} {n : String} (k : Kd H v n) (e : Same H H') : lstOf H' v = lstOf H v := by
  have no : ∀ {a : Addr} {o : HO}, H a = some o → (∀ xs, o ≠ .lst xs) → lstOf H' (.ref a) = lstOf H (.ref a) := by
    intro a o h hn
    have h' := e _ _ h
    show (match H' a with
      | some (.lst xs) => some xs
      | _ => none) = (match H a with
      | some (.lst xs) => some xs
      | _ => none)
    rw [h, h']
  cases k with
  | lst h => rw [lstOf_ref h, lstOf_ref (e _ _ h)]
  | tup h => exact no h fun xs z => nomatch z
  | dct h => exact no h fun xs z => nomatch z
  | _ => rfl
theorem Thing.mono {H H' : Hp} {v : V} (e : Same H H') (t : Thing H v) : Thing H' v where
  kd := by
    obtain ⟨n, k⟩ := t.kd
    exact ⟨n, k.mono e⟩
  all := fun xs h x hx => by
    obtain ⟨n, k⟩ := t.kd
    rw [lstOf_same k e] at h
    obtain ⟨m, k2⟩ := t.all xs h x hx
    exact ⟨m, k2.mono e⟩
theorem dieV_same {H H' : Hp} {v : V} (e : Same H H') (t : Thing H v) : dieV H' v = dieV H v := by
  obtain ⟨n, k⟩ := t.kd
  unfold dieV
  rw [lstOf_same k e]
/-- a thing that is asked where dice are due -/
structure DThing (H : Hp) (v : V) : Prop where
  kd : ∃ n, Kd H v n
  all : ∀ xs, lstOf H v = some xs → ∀ x ∈ xs, Thing H x
def diceB (H : Hp) (m : Int) (xs : List V) : Bool := decide (1 ≤ (xs.length : Int)) && decide ((xs.length : Int) ≤ m) && xs.all (dieV H)
def diceV (H : Hp) (m : Int) (v : V) : Bool := match lstOf H v with
  | some xs => diceB H m xs
  | none => false
def spNeedDice (C : Addr) : Sp := fun vs H Q E => ∃ (v : V) (m : Int), vs = [v, .int m] ∧ (m = 4 ∨ m = 8) ∧ DThing H v ∧ (diceV H m v = true → ∀ H', Same H H' → Q .non H') ∧ (diceV H m v = false → ∀ H', Same H H' → E (.ref C) none H')
theorem ok_need_dice (T : Lay K mg) : FnOk P w K mg base (L2.CX P w) 4 T.a_need_dice T.d_need_dice ["thing", "most"] (spNeedDice T.a_BadDice) := by
  refine T.f_need_dice.okX sc_need_dice (fun vs H Q E h => ?_) (fun cdv A outer s H vs Q E hr h => ?_)
  · obtain ⟨v, m, rfl, _⟩ := h
    rfl
  · obtain ⟨v, m, rfl, hm, th, q1, q2⟩ := h
    refine ⟨_, (pss_cons (ps_if (PW.pt (pw_or (pt_not (pt_val (pe_callB call_isi (by rfl) T.n_isinstance (by decide +kernel) (pa_cons (pv 0) (pa_cons (pe_bltn (v := .ty "list") (by rfl) T.n_list (by decide +kernel) rfl) pa_nil))))) (pw_or1 (pt_not (pt_chain op_le op_le pe_int (pe_callB call_len_seq (by rfl) T.n_len PySem.boot_len (pa_cons (pv 0) pa_nil)) (pv 1)))))) (pss_one (ps_raise rfl (takes_of rfl rfl rfl rfl) (SkE.pmk_own1 PySem.F.excBase_ValueError T.x_BadDice.x T.g_BadDice T.x_BadDice.k (raises_own T.x_BadDice.b T.x_BadDice.t) rfl (pe_joined (PJ.cons pe_str (PJ.cons (pe_fmt (pv 1)) (PJ.cons pe_str PJ.nil))))))) pss_nil)
    (pss_one (ps_if (pt_not (pt_val (pe_callB (cr_all rfl) (by rfl) T.n_all (by decide +kernel) (pa_cons (pe_lc (own := [("die", 2)]) (g := (gName 2)) rfl sc_need_dice.nd (pi_list (pv 0)) (blkOk_by (N := nm_need_dice) (sc := defScope st_need_dice) (by decide +kernel)) (fun _ _ _ _ _ => (pg_name (i := 2) sc_need_dice.nd rfl (Or.inl rfl))) (fun _ _ _ _ _ => pts_nil) (fun _ _ _ _ _ => (pe_call (ok_is_die T) (hr.mono (by decide)) (by rfl) T.g_is_die T.f_is_die.kp T.b_is_die .nil pass0 (pa_cons (pv 2) pa_nil)))) pa_nil)))) (pss_one (ps_raise rfl (takes_of rfl rfl rfl rfl) (pmk_own PySem.F.excBase_ValueError T.x_BadDice.x T.g_BadDice T.x_BadDice.k (raises_own T.x_BadDice.b T.x_BadDice.t) rfl))) pss_nil))), ?_⟩
    -- the first refusal
    have bad : ∀ H1, Same H H1 → diceV H m v = false → ∀ (st : L2.St), st[1]? = some (some (.int m)) →
        tJs [tC (.str "dice are a list of 1 to "), tFmt (tVar 1), tC (.str " dice")] Str.empty st H1 (fun out H2 => E (.ref T.a_BadDice) none H2) := by
      intro H1 e1 hd st h1
      rcases hm with rfl | rfl
      · exact ⟨_, rfl, by decide +kernel, _, h1, .inr ⟨_, rfl, by decide +kernel, _, rfl, by decide +kernel, _, rfl, by decide +kernel, q2 hd H1 e1⟩⟩
      · exact ⟨_, rfl, by decide +kernel, _, h1, .inr ⟨_, rfl, by decide +kernel, _, rfl, by decide +kernel, _, rfl, by decide +kernel, q2 hd H1 e1⟩⟩
    obtain ⟨n, hk⟩ := th.kd
    cases hl : lstOf H v with
    | none =>
      have e : diceV H m v = false := by unfold diceV; rw [hl]
      exact ⟨v, rfl, v, _, _, _, _, rfl, .ty _, hk.ty, kit_ty (hk.kListN hl), _, rfl, iteT (iteT (bad H (Same.refl H) e _ rfl))⟩
    | some xs =>
      have ed : diceV H m v = diceB H m xs := by unfold diceV; rw [hl]
      obtain ⟨a, rfl, ha⟩ := lstOf_some hl
      refine ⟨.ref a, rfl, .ref a, _, _, _, _, rfl, .ty _, hk.ty, kit_ty (hk.kListS hl), _, rfl, iteF ?_⟩
      refine ⟨.ref a, rfl, a, xs, rfl, .inl (sq_of ha), 1, _, rfl, rfl, _, rfl, iteD (fun h1 => ?_) (fun h1 => ?_)⟩
      · refine ⟨_, rfl, _, m, rfl, rfl, _, rfl, ?_⟩
        by_cases h2 : (xs.length : Int) ≤ m
        · rw [decide_eq_true h2]
          refine iteF ?_
          -- not all([is_die(die) for die in thing])
          refine ⟨.ref a, rfl, a, rfl, ⟨xs, sq_of ha⟩, fun D nD => ?_⟩
          have hlen : xs.length < 1000000 := by rcases hm with rfl | rfl <;> omega
          refine lc_all (K := K) (fun x => .bl (dieV H x)) nD (sq_of ha) hlen (fun x H' R hx e r N => ?_) (fun H' e hD => ?_)
          · have tx := th.all xs hl x hx
            refine ⟨rfl, iteT (B := N H') ⟨x, rfl, x, rfl, tx.mono e, fun H4 e4 => ?_⟩⟩
            rw [dieV_same e tx]
            exact r H4 e4
          · refine ⟨D, xs.map (dieV H), rfl, ?_, ?_⟩
            · rw [List.map_map]
              exact sq_of hD
            · rw [all_map]
              have e2 : diceB H m xs = xs.all (dieV H) := by
                unfold diceB
                rw [decide_eq_true h1, decide_eq_true h2]
                rfl
              refine ⟨_, rfl, ?_⟩
              cases hx : xs.all (dieV H) with
              | true => exact iteF (q1 (by rw [ed, e2, hx]) H' e)
              | false => exact iteT (q2 (by rw [ed, e2, hx]) H' e)
        · rw [decide_eq_false h2]
          have e2 : diceV H m (.ref a) = false := by
            rw [ed]
            unfold diceB
            rw [decide_eq_false h2, Bool.and_false, Bool.false_and]
          exact iteT (bad H (Same.refl H) e2 _ rfl)
      · have e2 : diceV H m (.ref a) = false := by
          rw [ed]
          unfold diceB
          rw [decide_eq_false h1, Bool.false_and, Bool.false_and]
        exact ⟨_, rfl, iteT (bad H (Same.refl H) e2 _ rfl)⟩
/-! ### a draw -/
def spDraw (K : PySem.W.Frag) : Sp := fun vs H Q _ => ∃ (a : Addr) (ns : List Int) (k : Int), vs = [.ref a, .int k] ∧ SqL K H a (ns.map V.int) ∧ ns.length ≤ 1000 ∧ 0 ≤ k ∧ k ≤ 1000000 ∧ ∀ H', Same H H' → Q (.int (drawN ns k)) H'
theorem ok_law_draw (T : Lay K mg) : FnOk P w K mg base CX0 1 T.a_law_draw T.d_law_draw ["_law_script", "_law_k"] (spDraw K) := by
  refine T.f_law_draw.ok sc_law_draw (fun vs H Q E h => ?_) (fun cdv A outer s H vs Q E hr h => ?_)
  · obtain ⟨a, ns, k, rfl, _⟩ := h
    rfl
  · obtain ⟨a, ns, k, rfl, hS, hl, h0, h1, q⟩ := h
    refine ⟨_, (pss_cons (ps_set (i := 2) sc_law_draw.nd rfl (Or.inl rfl) pe_int)
    (pss_cons (ps_if (pt_cmpR (op_neP hr.units) (pv 0) (pe_lst pa_nil) (nomark _)) (pss_one (ps_set (i := 2) sc_law_draw.nd rfl (Or.inl rfl) (pe_op op_add (pe_op op_mul pe_int (pe_callB (cr_sum rfl) (by rfl) T.n_sum (by decide +kernel) (pa_cons (pv 0) pa_nil))) (pe_ix ix_list (pv 0) (pe_op op_mod (pv 1) (pe_callB call_len_seq (by rfl) T.n_len PySem.boot_len (pa_cons (pv 0) pa_nil))) (fun _ _ => rfl))))) pss_nil)
    (pss_cons (ps_set (i := 3) sc_law_draw.nd rfl (Or.inl rfl) (pe_op op_add (pe_op op_add (pe_op op_mod (pv 2) pe_int) (pe_op op_mul pe_int (pv 1))) pe_int))
    (pss_one (ps_ret (pe_op op_fdiv (pe_op op_mod (pe_op op_mul (pe_op op_mod (pe_op op_mul (pv 3) (pv 3)) pe_int) (pv 3)) pe_int) pe_int)))))), ?_⟩
    refine ⟨_, rfl, Nat.zero_le _, fun p np => ?_⟩
    have e1 : Same H (upd H p (.lst [])) := same_new np
    have hS1 := e1.seq hS
    -- the rest, from a cell
    have rest : ∀ c : Int, c = cellN ns k → tSeq (tAsg (tOp (rI0 fun i j => .int (i + j)) (tOp (rI0 fun i j => .int (i + j)) (tOp (rI (fun _ j => 0 < j) fun i j => .int (i % j)) (tVar 2) (tC (.int 1000000007))) (tOp (rI CMul fun i j => .int (i * j)) (tC (.int 7919)) (tVar 1))) (tC (.int 13))) (gName 3))
        (tRet (tOp (rI CDiv fun i j => .int (i / j)) (tOp (rI (fun _ j => 0 < j) fun i j => .int (i % j)) (tOp (rI CMul fun i j => .int (i * j)) (tOp (rI (fun _ j => 0 < j) fun i j => .int (i % j)) (tOp (rI CMul fun i j => .int (i * j)) (tVar 3) (tVar 3)) (tC (.int 1000000007))) (tVar 3)) (tC (.int 998244353))) (tC (.int 11))))
        { nx := fun _ H' => Q .non H', rt := Q } [some (.ref a), some (.int k), some (.int c), none] (upd H p (.lst [])) := by
      intro c hc
      have hm : 0 ≤ c % 1000000007 ∧ c % 1000000007 < 1000000007 := by omega
      have hb : -(2 ^ 64) < c % 1000000007 + 7919 * k + 13 ∧ c % 1000000007 + 7919 * k + 13 < 2 ^ 64 := by omega
      refine ⟨_, rfl, c, _, rfl, rfl, md rfl, _, rfl, _, _, rfl, rfl, .inl (by decide), _, _, rfl, rfl, _, _, rfl, rfl, ?_⟩
      refine ⟨_, rfl, _, rfl, _, _, rfl, rfl, .inl hb, _, _, rfl, rfl, md rfl, _, rfl, _, _, rfl, rfl, .inr hb, _, _, rfl, rfl, md rfl, _, _, rfl, rfl, dv rfl, ?_⟩
      have := q _ e1
      rw [hc]
      exact this
    refine ne_is (is_ints hS1) (is_list (α := Int) (sq_of upd_same) .nil) ⟨_, rfl, iteND (fun hn => ?_) (fun hn => ?_)⟩
    · have hpos : 0 < ns.length := by
        cases ns with
        | nil => exact absurd rfl hn
        | cons x r => exact Nat.succ_pos _
      have hi0 := Int.emod_nonneg k (show (ns.length : Int) ≠ 0 by omega)
      have hi1 := Int.emod_lt_of_pos k (show 0 < (ns.length : Int) by omega)
      have hi : (k % (ns.length : Int)).toNat < ns.length := by omega
      refine ⟨_, rfl, a, ns, rfl, hS1, _, _, rfl, rfl, .inl (by decide), ?_⟩
      refine ⟨_, rfl, _, rfl, _, rfl, a, _, rfl, .inl hS1, k, _, rfl, rfl, (by rw [List.length_map]; omega), ?_⟩
      refine ⟨a, _, _, .int (ns.getD (k % (ns.length : Int)).toNat 0), rfl, rfl, hS1, ?_, _, _, rfl, rfl, ?_⟩
      · refine at_of (j := (k % (ns.length : Int)).toNat) ?_ ?_
        · rw [List.length_map]
          omega
        · rw [List.getElem?_map, List.getElem?_eq_getElem hi, List.getD_eq_getElem?_getD, List.getElem?_eq_getElem hi]
          rfl
      · refine rest _ ?_
        rw [cellN, if_neg hn]
    · refine rest 0 ?_
      rw [cellN, if_pos hn]
/-! ### a drawn die -/
def spDie (K : PySem.W.Frag) : Sp := fun vs H Q _ => ∃ (a : Addr) (ns : List Int) (k most top : Int), vs = [.ref a, .int k, .int most, .int top] ∧ SqL K H a (ns.map V.int) ∧ ns.length ≤ 1000 ∧ 0 ≤ k ∧ k ≤ 900000 ∧ 0 < most ∧ most ≤ 1000 ∧ 0 ≤ top ∧ top ≤ 1000000 ∧
  ∀ H' p, Same H H' → H p = none → H' p = some (.lst ((dieL ns k most top).map V.int)) → Q (.ref p) H'
theorem ok_law_die (T : Lay K mg) : FnOk P w K mg base CX0 2 T.a_law_die T.d_law_die ["_law_script", "_law_k", "_law_most", "_law_top"] (spDie K) := by
  refine T.f_law_die.ok sc_law_die (fun vs H Q E h => ?_) (fun cdv A outer s H vs Q E hr h => ?_)
  · obtain ⟨a, ns, k, most, top, rfl, _⟩ := h
    rfl
  · obtain ⟨a, ns, k, most, top, rfl, hS, hl, h0, h1, m0, m1, t0, t1, q⟩ := h
    refine ⟨_, (pss_cons (ps_set (i := 4) sc_law_die.nd rfl (Or.inl rfl) (pe_call (ok_law_draw T) (hr.mono (by decide)) (by rfl) T.g_law_draw T.f_law_draw.kp T.b_law_draw .nil pass0 (pa_cons (pv 0) (pa_cons (pv 1) pa_nil))))
    (pss_cons (ps_set (i := 5) sc_law_die.nd rfl (Or.inl rfl) (pe_lst pa_nil))
    (pss_cons (ps_for PassesOwn.never rfl (pi_range1 (by rfl) T.n_range (pa_cons (pe_op op_add pe_int (pe_op op_mod (pv 4) (pv 2))) pa_nil)) (pg_name (i := 6) sc_law_die.nd rfl (Or.inl rfl)) (pss_cons (ps_set (i := 7) sc_law_die.nd rfl (Or.inl rfl) (pe_op op_mod (pe_call (ok_law_draw T) (hr.mono (by decide)) (by rfl) T.g_law_draw T.f_law_draw.kp T.b_law_draw .nil pass0 (pa_cons (pv 0) (pa_cons (pe_op op_add (pe_op op_add (pv 1) pe_int) (pv 6)) pa_nil))) (pe_op op_add (pv 3) pe_int)))
    (pss_cons (ps_if (PW.pt (pw_and (pt_cmpR (op_neP hr.units) (pv 5) (pe_lst pa_nil) (nomark _)) (pw_and (pt_cmpR op_eq (pe_op op_mod (pe_op op_fdiv (pv 4) pe_int) pe_int) pe_int (nomark _)) (pw_and1 (pt_cmpR op_eq (pe_op op_mod (pv 7) pe_int) pe_int (nomark _)))))) (pss_one (ps_set (i := 7) sc_law_die.nd rfl (Or.inl rfl) (pe_ix ix_list (pv 5) pe_int (fun _ _ => rfl)))) pss_nil)
    (pss_one (ps_expr (pe_bm PySem.F.plainAttrs_list PySem.F.slot_list_append PySem.F.type_list_append mt_append (pv 5) (pa_cons (pv 7) pa_nil)))))))
    (pss_one (ps_ret (pv 5)))))), ?_⟩
    refine ⟨_, rfl, _, rfl, a, ns, k, rfl, hS, hl, h0, by omega, fun H1 e1 => ?_⟩
    refine ⟨Nat.zero_le _, fun f nf => ?_⟩
    have nf0 := Same.free e1 nf
    have hr1 := Int.emod_nonneg (drawN ns k) (show most ≠ 0 by omega)
    have hr2 := Int.emod_lt_of_pos (drawN ns k) m0
    refine ⟨_, rfl, _, rfl, drawN ns k, most, rfl, rfl, m0, _, _, rfl, rfl, _, rfl, by omega, by omega, ?_⟩
    refine for_range (lo := 0) (n := (1 + drawN ns k % most).toNat)
      (fun i σ H' => ∃ y1 y2, σ = [some (.ref a), some (.int k), some (.int most), some (.int top), some (.int (drawN ns k)), some (.ref f), y1, y2] ∧ Same H H' ∧ H' f = some (.lst ((dieFold ns k top (drawN ns k) i).map V.int)))
      ⟨none, none, rfl, same_old e1 nf0, upd_same⟩ ?_ ?_
    · rintro i σ H2 hi ⟨y1, y2, rfl, e2, hf⟩
      refine ⟨_, rfl, _, rfl, k, 1, rfl, rfl, _, rfl, _, _, rfl, rfl, a, ns, k + 1 + (0 + (i : Int)), rfl, e2.seq hS, hl, by omega, by omega, fun H3 e3 => ?_⟩
      refine ⟨_, rfl, top, 1, rfl, rfl, _, _, rfl, rfl, by omega, ?_⟩
      have hz : (0 : Int) + (i : Int) = (i : Int) := by omega
      rw [hz]
      -- the end of a turn
      have e23 := e2.trans e3
      have turn : ∀ (z : Int) (H4 : Hp), z = faceN ns k top (drawN ns k) (dieFold ns k top (drawN ns k) i) i → Same H3 H4 → tDrop (tBM K "list" rAppend (tVar 5) (tCons (tVar 7) tNil))
          { nx := fun σ H' => ∃ y1 y2, σ = [some (.ref a), some (.int k), some (.int most), some (.int top), some (.int (drawN ns k)), some (.ref f), y1, y2] ∧ Same H H' ∧ H' f = some (.lst ((dieFold ns k top (drawN ns k) (i + 1)).map V.int)), rt := fun _ _ => False }
          [some (.ref a), some (.int k), some (.int most), some (.int top), some (.int (drawN ns k)), some (.ref f), some (.int (i : Int)), some (.int z)] H4 := by
        intro z H4 hz4 e4
        have hf4 := e4 _ _ (e3 _ _ hf)
        refine ⟨_, rfl, .inl ⟨rfl, _, sq_of hf4⟩, _, rfl, f, _, _, rfl, rfl, hf4, sz_lt (by rw [List.length_map, dieFold_len]; omega), _, _, rfl, same_old (e23.trans e4) nf0, ?_⟩
        rw [upd_same, dieFold, List.map_append, ← hz4]
        rfl
      have hfl3 := e3 _ _ hf
      refine ⟨_, rfl, Nat.zero_le _, fun p np => ?_⟩
      have e5 : Same H3 (upd H3 p (.lst [])) := same_new np
      refine ne_is (is_ints (sq_of (e5 _ _ hfl3))) (is_list (α := Int) (sq_of upd_same) .nil) ⟨_, rfl, iteND (fun hn => ?_) (fun hn => ?_)⟩
      · refine ⟨_, rfl, _, _, rfl, rfl, dv rfl, _, _, rfl, rfl, md rfl, rfl, _, rfl, iteD (fun c1 => ?_) (fun c1 => ?_)⟩
        · refine ⟨_, rfl, _, _, rfl, rfl, md rfl, rfl, _, rfl, ?_⟩
          by_cases c2 : drawN ns (k + 1 + (i : Int)) % (top + 1) % 3 = 0
          · have c2' : decide (V.int (drawN ns (k + 1 + (i : Int)) % (top + 1) % 3) = V.int 0) = true := decide_eq_true (congrArg V.int c2)
            rw [c2']
            refine iteT ⟨_, rfl, f, _, 0, .int ((dieFold ns k top (drawN ns k) i).getD 0 0), rfl, rfl, sq_of (e5 _ _ hfl3), ?_, ?_⟩
            · refine atI_nat (j := 0) ?_
              cases hfd : dieFold ns k top (drawN ns k) i with
              | nil => exact absurd hfd hn
              | cons x r => rfl
            · refine turn _ _ ?_ e5
              rw [faceN, if_pos ⟨hn, V.int.inj c1, c2⟩]
          · have c2' : decide (V.int (drawN ns (k + 1 + (i : Int)) % (top + 1) % 3) = V.int 0) = false := decide_eq_false fun z => c2 (V.int.inj z)
            rw [c2']
            refine iteF (turn _ _ ?_ e5)
            rw [faceN, if_neg fun c => c2 c.2.2]
        · refine iteF (turn _ _ ?_ e5)
          rw [faceN, if_neg fun c => c1 (congrArg V.int c.2.1)]
      · refine iteF (turn _ _ ?_ e5)
        rw [faceN, if_neg fun c => c.1 hn]
    · rintro σ H2 ⟨y1, y2, rfl, e2, hf⟩
      exact ⟨_, rfl, q H2 f e2 nf0 hf⟩
/-! ### good dice -/
def good (ds : List Int) : Prop := 1 ≤ ds.length ∧ ds.length ≤ 8 ∧ ∀ f ∈ ds, 0 ≤ f ∧ f ≤ 99
theorem die_good {ds : List Int} (h : good ds) : dieB (ds.map V.int) = true := by
  have h3 : (ds.map V.int).all faceB = true := List.all_eq_true.mpr fun x hx => by
    obtain ⟨i, hi, rfl⟩ := List.mem_map.mp hx
    simp [faceB, h.2.2 i hi]
  simp [dieB, h.1, h.2.1, h3]
theorem kd_int_list {H : Hp} {ns : List Int} : ∀ x ∈ ns.map V.int, ∃ m, Kd H x m := fun x hx => by
  obtain ⟨i, _, rfl⟩ := List.mem_map.mp hx
  exact ⟨_, .int i⟩
theorem thing_die {H : Hp} {p : Addr} {ds : List Int} (h : H p = some (.lst (ds.map V.int))) : Thing H (.ref p) where
  kd := ⟨_, .lst h⟩
  all := fun xs e => by
    rw [lstOf_ref h] at e
    cases e
    exact kd_int_list
theorem dieV_die {H : Hp} {p : Addr} {ds : List Int} (h : H p = some (.lst (ds.map V.int))) : dieV H (.ref p) = dieB (ds.map V.int) := by
  unfold dieV
  rw [lstOf_ref h]
theorem paired_mem {α β : Type} {F : α → β → Prop} {xs : List α} {ys : List β} (h : Paired F xs ys) {x : α} (hx : x ∈ xs) : ∃ y ∈ ys, F x y := by
  obtain ⟨i, hi⟩ := List.mem_iff_getElem?.mp hx
  obtain ⟨y, hy, r⟩ := paired_at h hi
  exact ⟨y, List.mem_of_getElem? hy, r⟩
theorem dthing_dice {H : Hp} {a : Addr} {ps : List Addr} {dss : List (List Int)} (h : DiceAt H a ps dss) : DThing H (.ref a) where
  kd := ⟨_, .lst h.1⟩
  all := fun xs e x hx => by
    rw [lstOf_ref h.1] at e
    cases e
    obtain ⟨p, hp, rfl⟩ := List.mem_map.mp hx
    obtain ⟨ds, _, r⟩ := paired_mem h.2 hp
    exact thing_die r
theorem diceV_dice {H : Hp} {a : Addr} {ps : List Addr} {dss : List (List Int)} {m : Nat} (h : DiceAt H a ps dss) (h1 : 1 ≤ dss.length) (h2 : dss.length ≤ m) (hg : ∀ ds ∈ dss, good ds) : diceV H m (.ref a) = true := by
  have hl : ps.length = dss.length := paired_len h.2
  unfold diceV
  rw [lstOf_ref h.1]
  show diceB H m (ps.map V.ref) = true
  unfold diceB
  rw [List.length_map, decide_eq_true (by omega), decide_eq_true (by omega), Bool.true_and, Bool.true_and]
  refine List.all_eq_true.mpr fun x hx => ?_
  obtain ⟨p, hp, rfl⟩ := List.mem_map.mp hx
  obtain ⟨ds, hd, r⟩ := paired_mem h.2 hp
  rw [dieV_die r]
  exact die_good (hg ds hd)
theorem die_is_good (ns : List Int) (k : Int) {tp : Int} (h0 : 0 ≤ tp) (h1 : tp ≤ 99) : good (dieL ns k 8 tp) := by
  obtain ⟨a, b⟩ := dieL_len ns k tp (most := 8) (by decide)
  exact ⟨a, by omega, fun f hf => by
    have := dieL_mem ns (k := k) (most := 8) h0 f hf
    exact ⟨this.1, Int.le_trans this.2 h1⟩⟩
theorem map_ref_inj {l m : List Addr} (h : l.map V.ref = m.map V.ref) : l = m := (List.map_inj_right (fun _ _ z => V.ref.inj z)).mp h
theorem map_int_inj {l m : List Int} (h : l.map V.int = m.map V.int) : l = m := (List.map_inj_right (fun _ _ z => V.int.inj z)).mp h
theorem dice_uniq {H : Hp} {a : Addr} {ps qs : List Addr} {cs ds : List (List Int)} (h : DiceAt H a ps cs) (g : DiceAt H a qs ds) : ps = qs ∧ cs = ds := by
  have e : ps = qs := map_ref_inj (HO.lst.inj (Option.some.inj (h.1.symm.trans g.1)))
  subst e
  exact ⟨rfl, paired_eq h.2 g.2 fun p c d h1 h2 => map_int_inj (HO.lst.inj (Option.some.inj (h1.symm.trans h2)))⟩
theorem isall_dice {K : PySem.W.Frag} {H : Hp} {ps : List Addr} {dss : List (List Int)} (h : Paired (fun p ds => H p = some (.lst (ds.map V.int))) ps dss) : IsAll K H (ps.map V.ref) dss := by
  induction h with
  | nil => exact .nil
  | cons r t ih => exact .cons (is_ints (sq_of r)) ih
theorem is_dice {K : PySem.W.Frag} {H : Hp} {a : Addr} {ps : List Addr} {dss : List (List Int)} (h : DiceAt H a ps dss) : Is K H (.ref a) dss := is_list (sq_of h.1) (isall_dice h.2)
theorem ext_of {α : Type} {l m : List α} (hl : l.length = m.length) (h : ∀ (i : Nat) c, l[i]? = some c → m[i]? = some c) : l = m := by
  apply List.ext_getElem?
  intro i
  cases e : l[i]? with
  | some c => rw [h i c e]
  | none =>
    have := List.getElem?_eq_none_iff.mp e
    rw [List.getElem?_eq_none (by omega)]
theorem cut_first (l : List V) : cutV l none (some 1) = l.take 1 := by
  unfold cutV
  rw [HT.sIx_none, show HT.sIx l.length l.length (some 1) = min 1 l.length from HT.sIx_nat _ _ 1]
  show (l.drop 0).take (min 1 l.length - 0) = l.take 1
  rw [List.drop_zero, Nat.sub_zero]
  cases l with
  | nil => rfl
  | cons x r => rw [List.length_cons, Nat.min_eq_left (by omega)]
end
section
variable {P : Program} {w : World} {K : PySem.W.Frag} {mg : Str → Option Value} {base : Heap}
end
end My

namespace My
open PySem PySem.Spec PyProof.Rows L2
open PySem.W (Datum Tup)
section
variable {P : Program} {w : World} {K : PySem.W.Frag} {mg : Str → Option Value} {base : Heap}
/-! ### the law's own beating -/
def spLawBeats : Sp := fun vs H Q _ => ∃ a c ds es, vs = [.ref a, .ref c] ∧ H a = some (.lst (ds.map V.int)) ∧ H c = some (.lst (es.map V.int)) ∧ ∀ H', Same H H' → Q (.bl (beatsB ds es)) H'
def signF (f : Int) (es : List Int) : Int := (es.map fun g => (if g < f then (1 : Int) else 0) - if f < g then 1 else 0).sum
theorem signF_snoc (f g : Int) (es : List Int) : signF f (es ++ [g]) = signF f es + ((if g < f then (1 : Int) else 0) - if f < g then 1 else 0) := by
  unfold signF
  rw [List.map_append, List.sum_append]
  simp
theorem signN_snoc (f : Int) (ds es : List Int) : signN (ds ++ [f]) es = signN ds es + signF f es := by
  unfold signN signF
  rw [List.map_append, List.sum_append]
  simp
theorem bl_int (p : Prop) [Decidable p] : (if decide p = true then (1 : Int) else 0) = if p then 1 else 0 := by
  by_cases h : p
  · rw [decide_eq_true h, if_pos rfl, if_pos h]
  · rw [decide_eq_false h, if_neg h]
    rfl
theorem ok_law_beats (T : Lay K mg) : FnOk P w K mg base CX0 1 T.a_law_beats T.d_law_beats ["_law_one", "_law_other"] spLawBeats := by
  refine T.f_law_beats.ok sc_law_beats (fun vs H Q E h => ?_) (fun cdv A outer s H vs Q E hr h => ?_)
  · obtain ⟨a, c, ds, es, rfl, _⟩ := h
    rfl
  · obtain ⟨a, c, ds, es, rfl, ha, hc, q⟩ := h
    refine ⟨_, (pss_cons (ps_set (i := 2) sc_law_beats.nd rfl (Or.inl rfl) pe_int)
    (pss_cons (ps_for PassesOwn.never rfl (pi_list (pv 0)) (pg_name (i := 3) sc_law_beats.nd rfl (Or.inl rfl)) (pss_one (ps_for PassesOwn.never rfl (pi_list (pv 1)) (pg_name (i := 4) sc_law_beats.nd rfl (Or.inl rfl)) (pss_one (ps_set (i := 2) sc_law_beats.nd rfl (Or.inl rfl) (pe_op op_sub (pe_op op_add (pv 2) (pe_callTy call_int1 (by rfl) T.n_int (by decide +kernel) (pa_cons (pe_cmpR op_gt (pv 3) (pv 4) (nomark _)) pa_nil))) (pe_callTy call_int1 (by rfl) T.n_int (by decide +kernel) (pa_cons (pe_cmpR op_lt (pv 3) (pv 4) (nomark _)) pa_nil))))))))
    (pss_one (ps_ret (pe_cmpR op_gt (pv 2) pe_int (nomark _)))))), ?_⟩
    refine ⟨_, rfl, a, rfl, ⟨_, sq_of ha⟩, for_list (K := K) (a := a) (xs := ds.map V.int)
      (fun i σ H' => (∃ y1 y2, σ = [some (.ref a), some (.ref c), some (.int (signN (ds.take i) es)), y1, y2]) ∧ H' = H)
      ⟨⟨none, none, rfl⟩, rfl⟩ (fun i σ H' _ ⟨_, e⟩ => by rw [e]; exact sq_of ha) ?_ ?_⟩
    · rintro i x σ H' hi ⟨⟨y1, y2, rfl⟩, rfl⟩
      rw [List.getElem?_map] at hi
      cases hdi : ds[i]? with
      | none => rw [hdi] at hi; cases hi
      | some f =>
        rw [hdi] at hi
        cases hi
        refine ⟨_, rfl, c, rfl, ⟨_, sq_of hc⟩, for_list (K := K) (a := c) (xs := es.map V.int)
          (fun j σ H'' => (∃ y2, σ = [some (.ref a), some (.ref c), some (.int (signN (ds.take i) es + signF f (es.take j))), some (.int f), y2]) ∧ H'' = H')
          ⟨⟨y2, by rw [List.take_zero]; show _ = [_, _, some (V.int (signN (ds.take i) es + 0)), _, _]; rw [Int.add_zero]; rfl⟩, rfl⟩ (fun j σ H'' _ ⟨_, e⟩ => by rw [e]; exact sq_of hc) ?_ ?_⟩
        · rintro j y σ H'' hj ⟨⟨y2, rfl⟩, rfl⟩
          rw [List.getElem?_map] at hj
          cases hej : es[j]? with
          | none => rw [hej] at hj; cases hj
          | some g =>
            rw [hej] at hj
            cases hj
            refine ⟨_, rfl, _, rfl, _, rfl, f, g, rfl, rfl, .inr ⟨_, rfl, _, _, rfl, rfl, _, rfl, _, rfl, f, g, rfl, rfl, .inr ⟨_, rfl, _, _, rfl, rfl, ⟨some (.int g), ?_⟩, rfl⟩⟩⟩
            have e1 := bl_int (g < f)
            have e2 := bl_int (f < g)
            have e3 : ∀ s f a b : Int, s + (f + a - b) = s + f + a - b := by omega
            rw [take_snoc hej, signF_snoc, ← e1, ← e2, ← Int.add_sub_assoc, e3]
            rfl
        · rintro σ H'' ⟨⟨y2, rfl⟩, rfl⟩
          rw [List.length_map, List.take_length]
          refine ⟨⟨some (.int f), y2, ?_⟩, rfl⟩
          rw [take_snoc hdi, signN_snoc]
    · rintro σ H' ⟨⟨y1, y2, rfl⟩, rfl⟩
      rw [List.length_map, List.take_length]
      refine ⟨_, rfl, _, 0, rfl, rfl, ?_⟩
      have e : decide (signN ds es > 0) = beatsB ds es := sign_beats ds es
      dsimp only
      rw [e]
      exact q H' (Same.refl H')
theorem map_at {α β : Type} {f : α → β} {l : List α} {i : Nat} {y : β} (h : (l.map f)[i]? = some y) : ∃ x, l[i]? = some x ∧ f x = y := by
  rw [List.getElem?_map] at h
  cases e : l[i]? with
  | none => rw [e] at h; cases h
  | some x => rw [e] at h; exact ⟨x, rfl, Option.some.inj h⟩
theorem rgV_is (n : Nat) : rgV 0 (n : Int) = (rangeV 0 n).map V.int := by
  unfold rgV rangeV
  rw [List.map_map, Int.sub_zero, Int.toNat_natCast]
  rfl
/-- ints that are places -/
theorem place_of {H : Hp} {a : Addr} {ps : List Addr} {dss : List (List Int)} (h : DiceAt H a ps dss) {z : Int} (h0 : 0 ≤ z) (h1 : z < ((dss.length : Nat) : Int)) :
    ∃ p ds, atI (ps.map V.ref) z = some (.ref p) ∧ H p = some (.lst (ds.map V.int)) ∧ dss[z.toNat]? = some ds := by
  have hl : ps.length = dss.length := paired_len h.2
  have hz : z.toNat < ps.length := by omega
  have hp : ps[z.toNat]? = some ps[z.toNat] := List.getElem?_eq_getElem hz
  obtain ⟨ds, hd, r⟩ := paired_at h.2 hp
  exact ⟨_, ds, at_of (j := z.toNat) (by omega) (by rw [List.getElem?_map, hp]; rfl), r, hd⟩
theorem place_val {dss : List (List Int)} {z y : Int} {ds es : List Int} (hz : dss[z.toNat]? = some ds) (hy : dss[y.toNat]? = some es) : placeB dss z y = beatsB ds es := by
  unfold placeB
  rw [List.getD_eq_getElem?_getD, List.getD_eq_getElem?_getD, hz, hy]
  rfl
def keepB (b : Int → Int → Bool) (x : Int) : V → Bool
  | .int y => b y x
  | _ => false
theorem keep_ints (b : Int → Int → Bool) (x : Int) (L : List Int) : (L.map V.int).filter (keepB b x) = (L.filter fun y => b y x).map V.int := by
  rw [List.filter_map]
  rfl
theorem ring_in {row : List Int} (y : Int) : inV (.int y) (row.map V.int) = row.contains y := by
  unfold inV
  induction row with
  | nil => rfl
  | cons x r ih =>
    rw [List.map_cons, List.any_cons, ih, List.contains_cons]
    congr 1
    show (x == y) = (y == x)
    rw [Bool.eq_iff_iff, beq_iff_eq, beq_iff_eq]
    exact ⟨fun h => h.symm, fun h => h.symm⟩
theorem ints_flat (row : List Int) : (row.map V.int).all flatV = true := by
  rw [List.all_eq_true]
  intro x hx
  obtain ⟨i, _, rfl⟩ := List.mem_map.mp hx
  rfl
theorem atI_last_of {xs : List V} {v : V} (h : xs[xs.length - 1]? = some v) : atI xs (-1) = some v := by
  rcases List.eq_nil_or_concat xs with e | ⟨l, x, e⟩
  · subst e
    cases h
  · subst e
    rw [List.concat_eq_append] at h ⊢
    rw [List.length_append] at h
    have : (l ++ [x])[l.length]? = some v := h
    rw [List.getElem?_append_right (Nat.le_refl _), Nat.sub_self] at this
    rw [Option.some.inj this.symm]
    exact atI_last l x
end
end My

namespace My
open PySem PySem.Spec PyProof.Rows L2
open PySem.W (Datum Tup)
section
variable {P : Program} {w : World} {K : PySem.W.Frag} {mg : Str → Option Value} {base : Heap}
/-! ### a number for each die -/
def intsOf (H : Hp) (v : V) : List Int := ((lstOf H v).getD []).map fun x => match x with
  | .int i => i
  | _ => 0
theorem intsOf_at {H : Hp} {p : Addr} {ds : List Int} (h : H p = some (.lst (ds.map V.int))) : intsOf H (.ref p) = ds := by
  unfold intsOf
  rw [lstOf_ref h, Option.getD_some, List.map_map]
  exact List.map_id ds
theorem map_dice {H : Hp} (g : List Int → Int) {ps : List Addr} {dss : List (List Int)} (h : Paired (fun p ds => H p = some (.lst (ds.map V.int))) ps dss) : (ps.map V.ref).map (fun x => V.int (g (intsOf H x))) = (dss.map g).map V.int := by
  induction h with
  | nil => rfl
  | cons r t ih =>
    rw [List.map_cons, List.map_cons, ih, intsOf_at r, List.map_cons, List.map_cons]
theorem sum_small {ds : List Int} {n : Nat} (h : ∀ f ∈ ds, 0 ≤ f ∧ f ≤ 99) (l : ds.length ≤ n) : 0 ≤ ds.sum ∧ ds.sum ≤ 99 * (n : Int) := by
  have : 0 ≤ ds.sum ∧ ds.sum ≤ 99 * ((ds.length : Nat) : Int) := by
    clear l
    induction ds with
    | nil => exact ⟨Int.le_refl 0, Int.le_refl 0⟩
    | cons f r ih =>
      have a := h f List.mem_cons_self
      have b := ih fun x hx => h x (List.mem_cons_of_mem _ hx)
      rw [List.sum_cons, List.length_cons]
      omega
  omega
/-! ### the law's own dice -/
/-! ### one way or both, then the same -/
theorem iteC {p : Prop} {dec : Decidable p} {A : Prop} {C : L2.St → Hp → Prop} {σ : L2.St} {H : Hp} (G : L2.St → Hp → Prop) (k : ∀ σ' H', Same H H' → G σ' H' → C σ' H') (g : G σ H) (h1 : p → (∀ σ' H', Same H H' → G σ' H' → C σ' H') → A) : if decide p = true then A else C σ H := by
  by_cases h : p
  · rw [decide_eq_true h, if_pos rfl]
    exact h1 h k
  · rw [decide_eq_false h]
    exact k σ H (Same.refl H) g
theorem cut_to (l : List V) {k : Int} (h : 0 ≤ k) : cutV l none (some k) = l.take k.toNat := by
  obtain ⟨n, rfl⟩ : ∃ n : Nat, k = (n : Int) := ⟨k.toNat, by omega⟩
  unfold cutV
  rw [HT.sIx_none, HT.sIx_nat _ _ n, List.drop_zero, Nat.sub_zero, Int.toNat_natCast]
  rcases Nat.le_total n l.length with h | h
  · rw [Nat.min_eq_left h]
  · rw [Nat.min_eq_right h, List.take_length, List.take_of_length_le h]
theorem paired_append {α β : Type} {F : α → β → Prop} {xs xs' : List α} {ys ys' : List β} (h : Paired F xs ys) (h' : Paired F xs' ys') : Paired F (xs ++ xs') (ys ++ ys') := by
  induction h with
  | nil => exact h'
  | cons r t ih => exact .cons r ih
theorem paired_take {α β : Type} {F : α → β → Prop} : ∀ {xs : List α} {ys : List β} (n : Nat), Paired F xs ys → Paired F (xs.take n) (ys.take n)
  | _, _, 0, _ => by rw [List.take_zero, List.take_zero]; exact .nil
  | _, _, _ + 1, .nil => .nil
  | _, _, n + 1, .cons r t => by
    rw [List.take_succ_cons, List.take_succ_cons]
    exact .cons r (paired_take n t)
theorem paired_drop {α β : Type} {F : α → β → Prop} : ∀ {xs : List α} {ys : List β} (n : Nat), Paired F xs ys → Paired F (xs.drop n) (ys.drop n)
  | _, _, 0, h => h
  | _, _, _ + 1, .nil => .nil
  | _, _, n + 1, .cons r t => by
    rw [List.drop_succ_cons, List.drop_succ_cons]
    exact paired_drop n t
theorem cut_from (l : List V) {k : Int} (h : 0 ≤ k) : cutV l (some k) none = l.drop k.toNat := by
  obtain ⟨n, rfl⟩ : ∃ n : Nat, k = (n : Int) := ⟨k.toNat, by omega⟩
  unfold cutV
  rw [HT.sIx_none, HT.sIx_nat _ _ n, Int.toNat_natCast]
  rcases Nat.le_total n l.length with h | h
  · rw [Nat.min_eq_left h]
    exact List.take_of_length_le (by rw [List.length_drop]; exact Nat.le_refl _)
  · rw [Nat.min_eq_right h, List.drop_length, List.drop_of_length_le h]
    exact List.take_nil
def timesV (m : Int) : V → V
  | .int z => .int (m * z)
  | _ => .non
def good90 (ds : List Int) : Prop := 1 ≤ ds.length ∧ ds.length ≤ 8 ∧ ∀ f ∈ ds, 0 ≤ f ∧ f ≤ 90
theorem good90_good {ds : List Int} (h : good90 ds) : good ds := ⟨h.1, h.2.1, fun f hf => by have := h.2.2 f hf; omega⟩
def spLawDice (K : PySem.W.Frag) : Sp := fun vs H Q _ => ∃ (a : Addr) (ns : List Int), vs = [.ref a] ∧ SqL K H a (ns.map V.int) ∧ ns.length ≤ 63 ∧
  ∀ H' p ps dss, Same H H' → DiceAt H' p ps dss → 1 ≤ dss.length → dss.length ≤ 8 → (∀ ds ∈ dss, good90 ds) → Q (.ref p) H'
theorem ok_law_dice (T : Lay K mg) : FnOk P w K mg base CX0 3 T.a_law_dice T.d_law_dice ["_law_script"] (spLawDice K) := by
  refine T.f_law_dice.ok sc_law_dice (fun vs H Q E h => ?_) (fun cdv A outer s H vs Q E hr h => ?_)
  · obtain ⟨a, ns, rfl, _⟩ := h
    rfl
  · obtain ⟨a, ns, rfl, hS, hlen, q⟩ := h
    refine ⟨_, (pss_cons (ps_set (i := 1) sc_law_dice.nd rfl (Or.inr rfl) (pe_call (ok_law_draw T) (hr.mono (by decide)) (by rfl) T.g_law_draw T.f_law_draw.kp T.b_law_draw .nil pass0 (pa_cons (pv 0) (pa_cons pe_int pa_nil))))
    (pss_cons (ps_setLc (i := 2) (y := "_law_dice_here") (hy := rfl) (hyl := rfl) (hsw := sw_true rfl rfl rfl (by decide +kernel)) (own := [("_law_k", 6)]) (g := (gName 6)) (hc := rfl) (hN := sc_law_dice.nd) (hi := (pi_range1 (by rfl) T.n_range (pa_cons (pe_op op_add pe_int (pe_op op_mod (pv 1) pe_int)) pa_nil))) (ok := (blkOk_by (N := nm_law_dice) (sc := defScope st_law_dice) (by decide +kernel))) (hg := (fun _ _ _ _ _ => (pg_name (i := 6) sc_law_dice.nd rfl (Or.inl rfl)))) (ht := (fun _ _ _ _ _ => pts_nil)) (he := (fun _ _ _ _ _ => (pe_call (ok_law_die T) (hr.mono (by decide)) (by rfl) T.g_law_die T.f_law_die.kp T.b_law_die .nil pass0 (pa_cons (pv 0) (pa_cons (pe_op op_add (pe_op op_mul pe_int (pv 6)) pe_int) (pa_cons pe_int (pa_cons (pe_ix (r := rIxL K) ix_list (pe_lst (pa_cons pe_int (pa_cons pe_int (pa_cons pe_int pa_nil)))) (pe_op op_mod (pe_op op_fdiv (pv 1) pe_int) pe_int) (fun _ _ => rfl)) pa_nil))))))))
    (pss_cons (ps_if (pt_cmpR op_eq (pe_op op_mod (pe_op op_fdiv (pv 1) pe_int) pe_int) pe_int (nomark _)) (pss_cons (ps_set (i := 3) sc_law_dice.nd rfl (Or.inr rfl) (pe_op op_add pe_int (pe_op op_mod (pe_op op_fdiv (pv 1) pe_int) pe_int)))
    (pss_cons (ps_set (i := 4) sc_law_dice.nd rfl (Or.inl rfl) (pe_lst (pa_cons (pe_lst (pa_cons pe_int (pa_cons pe_int (pa_cons pe_int pa_nil)))) (pa_cons (pe_lst (pa_cons pe_int (pa_cons pe_int (pa_cons pe_int pa_nil)))) (pa_cons (pe_lst (pa_cons pe_int (pa_cons pe_int (pa_cons pe_int pa_nil)))) pa_nil)))))
    (pss_one (ps_set (i := 2) sc_law_dice.nd rfl (Or.inl rfl) (pe_op op_cat (pe_slice sl_list (pv 2) po_none (po_some pe_int)) (pe_lc (own := [("_law_die_here", 7)]) (g := (gName 7)) rfl sc_law_dice.nd (pi_list (pv 4)) (blkOk_by (N := nm_law_dice) (sc := defScope st_law_dice) (by decide +kernel)) (fun _ _ _ _ _ => (pg_name (i := 7) sc_law_dice.nd rfl (Or.inl rfl))) (fun _ _ _ _ _ => pts_nil) (fun _ _ _ _ _ => (pe_lc (own := [("_law_face", 8)]) (g := (gName 8)) rfl sc_law_dice.nd (pi_same (t' := iList K _) (pi_list (pv 7)) rfl) (blkOk_by (N := nm_law_dice) (sc := { kind := ScopeKind.function, names := [(Str.ofString ".0", NameKind.local), (Str.ofString "_law_die_here", NameKind.local), (Str.ofString "_law_by", NameKind.cell)], isGenerator := false, isCoroutine := false }) (by decide +kernel)) (fun _ _ _ _ _ => (pg_name (i := 8) sc_law_dice.nd rfl (Or.inl rfl))) (fun _ _ _ _ _ => pts_nil) (fun _ _ _ _ _ => (pe_op op_mul (pv 3) (pv 8))))))))))) pss_nil)
    (pss_cons (ps_set (i := 5) sc_law_dice.nd rfl (Or.inl rfl) (pe_op op_mod (pe_op op_fdiv (pv 1) pe_int) (pe_callB call_len_seq (by rfl) T.n_len PySem.boot_len (pa_cons (pv 2) pa_nil))))
    (pss_one (ps_ret (pe_op op_cat (pe_slice sl_list (pv 2) (po_some (pv 5)) po_none) (pe_slice sl_list (pv 2) po_none (po_some (pv 5)))))))))), ?_⟩
    have h63 : ns.length ≤ 1000 := by omega
    refine ⟨_, rfl, a, ns, 0, rfl, hS, h63, by decide, by decide, fun H1 e1 => ?_⟩
    obtain ⟨num0, num1⟩ := draw_range ns 0
    generalize drawN ns 0 = num at *
    obtain ⟨tp, tp0, tp1, hat⟩ : ∃ tp : Int, 0 ≤ tp ∧ tp ≤ 90 ∧ atI [V.int 9, .int 9, .int 90] (num / 8 % 3) = some (.int tp) := by
      obtain h | h | h : num / 8 % 3 = 0 ∨ num / 8 % 3 = 1 ∨ num / 8 % 3 = 2 := by omega
      · rw [h]
        exact ⟨9, by decide, by decide, at_of (j := 0) rfl rfl⟩
      · rw [h]
        exact ⟨9, by decide, by decide, at_of (j := 1) rfl rfl⟩
      · rw [h]
        exact ⟨90, by decide, by decide, at_of (j := 2) rfl rfl⟩
    have gd8 : ∀ k : Int, good90 (dieL ns k 8 tp) := fun k => by
      obtain ⟨a, b⟩ := dieL_len ns k tp (most := 8) (by decide)
      exact ⟨a, by omega, fun f hf => by
        have := dieL_mem ns (k := k) (most := 8) tp0 f hf
        exact ⟨this.1, Int.le_trans this.2 tp1⟩⟩
    have hm7 : 0 ≤ num % 8 ∧ num % 8 < 8 := by omega
    refine ⟨_, rfl, num, 8, rfl, rfl, md rfl, 1, _, rfl, rfl, _, rfl, by omega, by omega, fun D nD => ?_⟩
    refine lr_lists (fun _ c => good90 c) nD (by omega) (fun i H' R hi e r N => ?_) (fun H2 M => ?_)
    · refine ⟨rfl, iteT (B := N H') ?_⟩
      refine ⟨_, rfl, _, rfl, 10, _, rfl, rfl, .inl (by decide), _, 1, rfl, rfl, sz_ok (show 3 ≤ 1000000 by decide), fun q1 m1 => ?_⟩
      refine ⟨_, rfl, num, 8, rfl, rfl, dv rfl, _, 3, rfl, rfl, md rfl, q1, _, _, .int tp, rfl, rfl, sq_of upd_same, hat, ?_⟩
      have s1 := same_new (o := .lst [.int 9, .int 9, .int 90]) m1
      refine ⟨a, ns, _, 8, tp, rfl, ((e1.trans e).trans s1).seq hS, h63, by omega, by omega, by decide, by decide, tp0, by omega, fun H4 p e4 np hp => ?_⟩
      exact r H4 p _ (s1.trans e4) (Same.free s1 np) hp (gd8 _)
    · have e2 := M.same
      obtain ⟨ps, dss, hD2, lps, _, _, _, gd⟩ := M.made
      have ldss : ps.length = dss.length := paired_len hD2.2
      have hg : ∀ ds ∈ dss, good90 ds := fun ds hds => by
        obtain ⟨i, hi⟩ := List.mem_iff_getElem?.mp hds
        exact gd i ds hi
      have e12 := e1.trans e2
      clear M nD gd gd8
      refine ⟨_, rfl, num, 32, rfl, rfl, dv rfl, _, 2, rfl, rfl, md rfl, rfl, _, rfl, ?_⟩
      dsimp only
      refine iteC (H := H2) (fun σ' H' => ∃ (p : Addr) (ps : List Addr) (dss : List (List Int)), (∃ y3 y4 y7 y8 y9, σ' = [some (.ref a), some (.int num), some (.ref p), y3, y4, none, y7, y8, y9]) ∧ DiceAt H' p ps dss ∧ 1 ≤ dss.length ∧ dss.length ≤ 8 ∧ ∀ ds ∈ dss, good90 ds) (fun σ' H3 e3 g3 => ?_) ⟨D, ps, dss, ⟨_, _, _, _, _, rfl⟩, hD2, by omega, by omega, hg⟩ (fun c k => ?_)
      rotate_left
      · refine ⟨_, rfl, num, 64, rfl, rfl, dv rfl, _, 9, rfl, rfl, md rfl, 1, _, rfl, rfl, ?_⟩
        dsimp only
        have hby : 1 ≤ 1 + num / 64 % 9 ∧ 1 + num / 64 % 9 ≤ 9 := by omega
        generalize 1 + num / 64 % 9 = by_ at *
        refine ⟨sz_ok (show 3 ≤ 1000000 by decide), ?_⟩
        intro r1 nr1
        have s1 := same_new (H := H2) (o := (.lst [.int 2, .int 4, .int 9])) nr1
        have hr1 := upd_same (H := H2) (a := r1) (o := (.lst [.int 2, .int 4, .int 9]))
        generalize upd H2 r1 (.lst [.int 2, .int 4, .int 9]) = H3 at *
        refine ⟨sz_ok (show 3 ≤ 1000000 by decide), ?_⟩
        intro r2 nr2
        have s2 := same_new (H := H3) (o := (.lst [.int 1, .int 6, .int 8])) nr2
        have hr2 := upd_same (H := H3) (a := r2) (o := (.lst [.int 1, .int 6, .int 8]))
        generalize upd H3 r2 (.lst [.int 1, .int 6, .int 8]) = H4 at *
        refine ⟨sz_ok (show 3 ≤ 1000000 by decide), ?_⟩
        intro r3 nr3
        have s3 := same_new (H := H4) (o := (.lst [.int 3, .int 5, .int 7])) nr3
        have hr3 := upd_same (H := H4) (a := r3) (o := (.lst [.int 3, .int 5, .int 7]))
        generalize upd H4 r3 (.lst [.int 3, .int 5, .int 7]) = H5 at *
        refine ⟨sz_ok (show 3 ≤ 1000000 by decide), ?_⟩
        intro r4 nr4
        have s4 := same_new (H := H5) (o := (.lst [.ref r1, .ref r2, .ref r3])) nr4
        have hr4 := upd_same (H := H5) (a := r4) (o := (.lst [.ref r1, .ref r2, .ref r3]))
        generalize upd H5 r4 (.lst [.ref r1, .ref r2, .ref r3]) = H6 at *
        have e26 := ((s1.trans s2).trans s3).trans s4
        have hB : DiceAt H6 r4 [r1, r2, r3] [[2, 4, 9], [1, 6, 8], [3, 5, 7]] := ⟨hr4, .cons (((s2.trans s3).trans s4) _ _ hr1) (.cons ((s3.trans s4) _ _ hr2) (.cons (s4 _ _ hr3) .nil))⟩
        have hD6 := hD2.mono e26
        refine ⟨_, rfl, 5, rfl, D, _, rfl, sq_of hD6.1, ?_⟩
        rw [cut_to _ (by decide)]
        intro c1 nc1
        have s5 := same_new (H := H6) (o := (.lst ((ps.map V.ref).take (5 : Int).toNat))) nc1
        have hc1 := upd_same (H := H6) (a := c1) (o := (.lst ((ps.map V.ref).take (5 : Int).toNat)))
        generalize upd H6 c1 (.lst ((ps.map V.ref).take (5 : Int).toNat)) = H7 at *
        have hB7 := hB.mono s5
        refine ⟨_, rfl, r4, rfl, ⟨_, sq_of hB7.1⟩, fun D2 nD2 => ?_⟩
        refine ll_lists (K := K) (fun _ c => good90 c) nD2 (sq_of hB7.1) (show 3 < 1000000 by decide) (fun i x H' R hi e r N => ?_) (fun H8 M2 => ?_)
        · obtain ⟨q1, hqi, rfl⟩ := map_at (f := V.ref) (l := [r1, r2, r3]) hi
          obtain ⟨ds, hdi, hq1⟩ := paired_at hB7.2 hqi
          have hds : ds.length = 3 ∧ ∀ f ∈ ds, 0 ≤ f ∧ f ≤ 9 := by
            have hm := List.mem_of_getElem? hdi
            simp only [List.mem_cons, List.not_mem_nil, or_false] at hm
            rcases hm with h | h | h
            · subst h
              decide
            · subst h
              decide
            · subst h
              decide
          have hqe := e _ _ hq1
          refine ⟨rfl, iteT (B := N H') ⟨_, rfl, q1, rfl, ⟨_, sq_of hqe⟩, fun D3 nD3 => ?_⟩⟩
          refine lc_all (K := K) (timesV by_) nD3 (sq_of hqe) (by rw [List.length_map]; omega) (fun x H9 R2 hx e9 r9 N2 => ?_) (fun H9 e9 hD9 => ?_)
          · obtain ⟨z, hz, rfl⟩ := List.mem_map.mp hx
            have := hds.2 z hz
            exact ⟨rfl, iteT (B := N2 H9) ⟨_, rfl, _, rfl, by_, z, rfl, rfl, .inl (by omega), r9 H9 (Same.refl H9)⟩⟩
          · refine r H9 D3 (ds.map fun z => by_ * z) e9 nD3 (by rw [hD9, List.map_map, List.map_map]; rfl) ⟨by rw [List.length_map]; omega, by rw [List.length_map]; omega, fun f hf => ?_⟩
            obtain ⟨z, hz, rfl⟩ := List.mem_map.mp hf
            have hz2 := hds.2 z hz
            have m1 : 0 ≤ by_ * z := Int.mul_nonneg (by omega) hz2.1
            have m2 : by_ * z ≤ 9 * 9 := Int.mul_le_mul hby.2 hz2.2 hz2.1 (by decide)
            show 0 ≤ by_ * z ∧ by_ * z ≤ 90
            omega
        · have e8 := M2.same
          obtain ⟨qs, cs, hC, lqs, _, _, _, gc⟩ := M2.made
          have lcs : qs.length = cs.length := paired_len hC.2
          have lq3 : qs.length = 3 := lqs
          have hD8 := (hD6.mono s5).mono e8
          refine ⟨c1, D2, _, _, rfl, rfl, e8 _ _ hc1, hC.1, sz_ok (by rw [List.length_take, List.length_map, List.length_map]; omega), ?_⟩
          rw [← List.map_take, ← List.map_append]
          intro c2 nc2
          have s9 := same_new (H := H8) (o := (.lst ((ps.take (5 : Int).toNat ++ qs).map V.ref))) nc2
          have hc2 := upd_same (H := H8) (a := c2) (o := (.lst ((ps.take (5 : Int).toNat ++ qs).map V.ref)))
          generalize upd H8 c2 (.lst ((ps.take (5 : Int).toNat ++ qs).map V.ref)) = H9 at *
          refine k _ H9 (((e26.trans s5).trans e8).trans s9) ⟨c2, ps.take (5 : Int).toNat ++ qs, dss.take (5 : Int).toNat ++ cs, ⟨_, _, _, _, _, rfl⟩, ⟨hc2, paired_append (paired_take _ (hD8.mono s9).2) (hC.mono s9).2⟩, ?_, ?_, fun ds hds => ?_⟩
          · rw [List.length_append]
            omega
          · rw [List.length_append, List.length_take]
            have : (5 : Int).toNat = 5 := rfl
            omega
          · rcases List.mem_append.mp hds with z | z
            · exact hg ds (List.mem_of_mem_take z)
            · obtain ⟨i, hi⟩ := List.mem_iff_getElem?.mp z
              exact gc i ds hi
      obtain ⟨p, ps2, dss2, ⟨y3, y4, y7, y8, y9, rfl⟩, hD3, l1, l7, hg3⟩ := g3
      have lp2 : ps2.length = dss2.length := paired_len hD3.2
      have hpos : (0 : Int) < (((ps2.map V.ref).length : Nat) : Int) := by rw [List.length_map]; omega
      refine ⟨_, rfl, num, 6400, rfl, rfl, dv rfl, _, rfl, p, _, rfl, .inl (sq_of hD3.1), _, _, rfl, rfl, hpos, ?_⟩
      have ht0 := Int.emod_nonneg (num / 6400) (show (((ps2.map V.ref).length : Nat) : Int) ≠ 0 by omega)
      dsimp only
      generalize num / 6400 % (((ps2.map V.ref).length : Nat) : Int) = t at *
      refine ⟨_, rfl, _, rfl, t, rfl, p, _, rfl, sq_of hD3.1, ?_⟩
      intro c1 nc1
      have s4 := same_new (H := H3) (o := (.lst (cutV (ps2.map V.ref) (some t) none))) nc1
      have hc1 := upd_same (H := H3) (a := c1) (o := (.lst (cutV (ps2.map V.ref) (some t) none)))
      generalize upd H3 c1 (.lst (cutV (ps2.map V.ref) (some t) none)) = H4 at *
      refine ⟨_, rfl, _, rfl, t, rfl, p, _, rfl, sq_of (s4 _ _ hD3.1), ?_⟩
      intro c2 nc2
      have s5 := same_new (H := H4) (o := (.lst (cutV (ps2.map V.ref) none (some t)))) nc2
      have hc2 := upd_same (H := H4) (a := c2) (o := (.lst (cutV (ps2.map V.ref) none (some t))))
      generalize upd H4 c2 (.lst (cutV (ps2.map V.ref) none (some t))) = H5 at *
      have lc1 := cutV_length (ps2.map V.ref) (some t) none
      have lc2 := cutV_length (ps2.map V.ref) none (some t)
      rw [List.length_map] at lc1 lc2
      refine ⟨c1, c2, _, _, rfl, rfl, s5 _ _ hc1, hc2, sz_ok (by omega), ?_⟩
      intro c3 nc3
      have s6 := same_new (H := H5) (o := (.lst (cutV (ps2.map V.ref) (some t) none ++ cutV (ps2.map V.ref) none (some t)))) nc3
      have hc3 := upd_same (H := H5) (a := c3) (o := (.lst (cutV (ps2.map V.ref) (some t) none ++ cutV (ps2.map V.ref) none (some t))))
      generalize upd H5 c3 (.lst (cutV (ps2.map V.ref) (some t) none ++ cutV (ps2.map V.ref) none (some t))) = H6 at *
      have e36 := (s4.trans s5).trans s6
      refine q H6 c3 (ps2.drop t.toNat ++ ps2.take t.toNat) (dss2.drop t.toNat ++ dss2.take t.toNat) ((e12.trans e3).trans e36) ⟨?_, paired_append (paired_drop _ (hD3.mono e36).2) (paired_take _ (hD3.mono e36).2)⟩ ?_ ?_ fun ds hds => ?_
      · rw [hc3, cut_from _ ht0, cut_to _ ht0, List.map_append, List.map_drop, List.map_take]
      · rw [List.length_append, List.length_drop, List.length_take]
        omega
      · rw [List.length_append, List.length_drop, List.length_take]
        omega
      · rcases List.mem_append.mp hds with z | z
        · exact hg3 ds (List.mem_of_mem_drop z)
        · exact hg3 ds (List.mem_of_mem_take z)
end
end My

namespace My
open PySem PySem.Spec PyProof.Rows L2
open PySem.W (Datum Tup)
section
variable {P : Program} {w : World} {K : PySem.W.Frag} {mg : Str → Option Value} {base : Heap}
/-! ### a thing that is a die is a list of faces -/
theorem ints_of : ∀ xs : List V, xs.all faceB = true → ∃ ns : List Int, xs = ns.map V.int ∧ ∀ f ∈ ns, 0 ≤ f ∧ f ≤ 99
  | [], _ => ⟨[], rfl, fun _ h => by cases h⟩
  | x :: r, h => by
    rw [List.all_cons, Bool.and_eq_true] at h
    obtain ⟨ns, e, hf⟩ := ints_of r h.2
    cases x with
    | int i =>
      have hi : 0 ≤ i ∧ i ≤ 99 := by simpa [faceB] using h.1
      refine ⟨i :: ns, by rw [e]; rfl, fun f hm => ?_⟩
      rcases List.mem_cons.mp hm with z | z
      · rw [z]; exact hi
      · exact hf f z
    | _ => exact absurd h.1 (by simp [faceB])
theorem good_at {H : Hp} {v : V} (h : dieV H v = true) : ∃ a ds, v = .ref a ∧ H a = some (.lst (ds.map V.int)) ∧ good ds := by
  unfold dieV at h
  split at h
  · rename_i xs hl
    obtain ⟨a, rfl, ha⟩ := lstOf_some hl
    simp only [dieB, Bool.and_eq_true, decide_eq_true_eq] at h
    obtain ⟨ns, rfl, hf⟩ := ints_of xs h.2
    rw [List.length_map] at h
    exact ⟨a, ns, rfl, ha, h.1.1, h.1.2, hf⟩
  · cases h
/-! ### faces above faces, two by two -/
def upL (ds es : List Int) : List V := ds.flatMap fun f => (es.filter fun g => decide (g < f)).map fun _ => V.bl true
theorem upL_snoc (ds es : List Int) (f : Int) : upL (ds ++ [f]) es = upL ds es ++ (es.filter fun g => decide (g < f)).map fun _ => V.bl true := by
  unfold upL
  rw [List.flatMap_append, List.flatMap_cons, List.flatMap_nil, List.append_nil]
theorem upL_len (es : List Int) : ∀ ds : List Int, (((upL ds es).length : Nat) : Int) = aboveN ds es
  | [] => rfl
  | f :: r => by
    have ih := upL_len es r
    unfold upL at ih ⊢
    rw [List.flatMap_cons, List.length_append, above_cons, ← ih, List.length_map]
    omega
theorem upL_top (es : List Int) : ∀ ds : List Int, (upL ds es).length ≤ ds.length * es.length
  | [] => Nat.zero_le _
  | f :: r => by
    have ih := upL_top es r
    have h := List.length_filter_le (fun g => decide (g < f)) es
    unfold upL at ih ⊢
    rw [List.flatMap_cons, List.length_append, List.length_cons, Nat.succ_mul, List.length_map]
    omega
theorem up_snoc (f g : Int) (es : List Int) : ((es ++ [g]).filter fun g => decide (g < f)).map (fun _ => V.bl true) = (es.filter fun g => decide (g < f)).map (fun _ => V.bl true) ++ if g < f then [V.bl true] else [] := by
  rw [List.filter_append, List.map_append, List.filter_cons]
  by_cases c : g < f
  · rw [if_pos (decide_eq_true c), if_pos c]
    rfl
  · rw [if_neg (by rw [decide_eq_true_eq]; exact c), if_neg c]
    rfl
def spThrows : Sp := fun vs H Q _ => ∃ a c ds es, vs = [.ref a, .ref c] ∧ H a = some (.lst (ds.map V.int)) ∧ H c = some (.lst (es.map V.int)) ∧ ds.length ≤ 8 ∧ es.length ≤ 8 ∧ ∀ H', Same H H' → Q (.int (aboveN ds es)) H'
theorem ok_throws_above (T : Lay K mg) : FnOk P w K mg base CX0 1 T.a_throws_above T.d_throws_above ["one", "other"] spThrows := by
  refine T.f_throws_above.ok sc_throws_above (fun vs H Q E h => ?_) (fun cdv A outer s H vs Q E hr h => ?_)
  · obtain ⟨a, c, ds, es, rfl, _⟩ := h
    rfl
  · obtain ⟨a, c, ds, es, rfl, ha, hc, l1, l2, q⟩ := h
    refine ⟨_, (pss_one (ps_ret (pe_callB call_len_seq (by rfl) T.n_len PySem.boot_len (pa_cons (pe_lc2 (own := [("face", 2), ("against", 3)]) (vs1 := [3]) (g := (gName 2)) (g1 := (gName 3)) rfl sc_throws_above.nd (pi_list (pv 0)) (blkOk_by (N := nm_throws_above) (sc := defScope st_throws_above) (by decide +kernel)) (by decide) (fun _ _ _ _ _ => (pg_name (i := 2) sc_throws_above.nd rfl (Or.inl rfl))) (fun _ _ _ _ _ => pts_nil) (fun _ _ _ _ _ => (pi_same (t' := iList K _) (pi_list (pv 1)) rfl)) (fun _ _ _ _ _ => (pg_name (i := 3) sc_throws_above.nd rfl (Or.inl rfl))) (fun _ _ _ _ _ => (pts_one (pt_cmpR op_gt (pv 2) (pv 3) (nomark _)))) (fun _ _ _ _ _ => pe_bl)) pa_nil)))), ?_⟩
    have top : ∀ i, (upL (ds.take i) es).length ≤ 64 := fun i => by
      refine Nat.le_trans (upL_top es _) ?_
      rw [List.length_take]
      exact Nat.mul_le_mul (Nat.le_trans (Nat.min_le_right _ _) l1) l2
    refine ⟨_, rfl, a, rfl, ⟨_, sq_of ha⟩, fun D nD => ?_⟩
    have s1 : Same H (upd H D (.lst [])) := same_new nD
    refine ⟨fun i m H' => m = ds.length - i ∧ i ≤ ds.length ∧ Same H H' ∧ H' D = some (.lst (upL (ds.take i) es)), ⟨_, rfl, Nat.zero_le _, s1, upd_same⟩, ?_⟩
    rintro i m H1 ⟨rfl, hi, e1, hD1⟩
    by_cases hlt : i < ds.length
    · have hdi : ds[i]? = some ds[i] := List.getElem?_eq_getElem hlt
      refine .inr ⟨⟨_, .int ds[i], sq_of (e1 _ _ ha), by rw [List.getElem?_map, hdi]; rfl⟩, fun H' => Same H H' ∧ H' D = some (.lst (upL (ds.take (i + 1)) es)), fun H' p => ⟨ds.length - (i + 1), by omega, rfl, hlt, p⟩, fun x H2 hy => ?_⟩
      obtain ⟨rfl, hx⟩ := hy
      have hx := hx _ (sq_of (e1 _ _ ha))
      rw [List.getElem?_map, hdi] at hx
      cases hx
      generalize ds[i] = f at *
      refine ⟨rfl, iteT (B := Same H H2 ∧ H2 D = some (.lst (upL (ds.take (i + 1)) es))) ⟨_, rfl, c, rfl, ⟨_, sq_of (e1 _ _ hc)⟩, ?_⟩⟩
      have hup : ∀ j, ((es.take j).filter fun g => decide (g < f)).length ≤ 8 := fun j => by
        refine Nat.le_trans (List.length_filter_le _ _) ?_
        rw [List.length_take]
        omega
      refine ⟨fun j k H' => k = es.length - j ∧ j ≤ es.length ∧ Same H H' ∧ H' D = some (.lst (upL (ds.take i) es ++ ((es.take j).filter fun g => decide (g < f)).map fun _ => V.bl true)), ⟨_, rfl, Nat.zero_le _, e1, by rw [List.take_zero]; show _ = some (HO.lst (_ ++ [])); rw [List.append_nil]; exact hD1⟩, ?_⟩
      rintro j k H3 ⟨rfl, hj, e3, hD3⟩
      by_cases hjl : j < es.length
      · have hej : es[j]? = some es[j] := List.getElem?_eq_getElem hjl
        refine .inr ⟨⟨_, .int es[j], sq_of (e3 _ _ hc), by rw [List.getElem?_map, hej]; rfl⟩, fun H' => Same H H' ∧ H' D = some (.lst (upL (ds.take i) es ++ ((es.take (j + 1)).filter fun g => decide (g < f)).map fun _ => V.bl true)), fun H' p => ⟨es.length - (j + 1), by omega, rfl, hjl, p⟩, fun y H4 hy => ?_⟩
        obtain ⟨rfl, hy⟩ := hy
        have hy := hy _ (sq_of (e3 _ _ hc))
        rw [List.getElem?_map, hej] at hy
        cases hy
        generalize es[j] = g at *
        refine ⟨rfl, _, rfl, _, rfl, f, g, rfl, rfl, _, rfl, iteD (fun k => ?_) (fun k => ?_)⟩
        · refine ⟨_, hD3, sz_lt ?_, same_old e3 nD, ?_⟩
          · rw [List.length_append, List.length_map]
            have := top i
            have := hup j
            omega
          · rw [upd_same, take_snoc hej, up_snoc, if_pos (by omega), List.append_assoc]
        · refine ⟨e3, ?_⟩
          rw [hD3, take_snoc hej, up_snoc, if_neg (by omega), List.append_nil]
      · have : j = es.length := by omega
        subst this
        refine .inl ⟨⟨_, sq_of (e3 _ _ hc), by rw [List.length_map]; exact Nat.le_refl _⟩, e3, ?_⟩
        rw [hD3, List.take_length, take_snoc hdi, upL_snoc]
    · have : i = ds.length := by omega
      subst this
      rw [List.take_length] at hD1
      refine .inl ⟨⟨_, sq_of (e1 _ _ ha), by rw [List.length_map]; exact Nat.le_refl _⟩, D, _, rfl, .inl (sq_of hD1), ?_⟩
      rw [upL_len]
      exact q H1 e1
/-! ### beats -/
def spBeats (C : Addr) : Sp := fun vs H Q E => ∃ v u, vs = [v, u] ∧ Thing H v ∧ Thing H u ∧
  (∀ a c ds es, v = .ref a → u = .ref c → H a = some (.lst (ds.map V.int)) → H c = some (.lst (es.map V.int)) → good ds → good es → ∀ H', Same H H' → Q (.bl (beatsB ds es)) H') ∧
  ((dieV H v && dieV H u) = false → ∀ H', Same H H' → E (.ref C) none H')
theorem ok_beats (T : Lay K mg) : FnOk P w K mg base (L2.CX P w) 6 T.a_beats T.d_beats ["one", "other"] (spBeats T.a_BadDie) := by
  refine T.f_beats.okX sc_beats (fun vs H Q E h => ?_) (fun cdv A outer s H vs Q E hr h => ?_)
  · obtain ⟨v, u, rfl, _⟩ := h
    rfl
  · obtain ⟨v, u, rfl, tv, tu, q1, q2⟩ := h
    have tk : Takes (cxOf (L2.CX P w) P w K mg base nm_beats "beats" (defScope st_beats) T.a_beats cdv A outer s H E) (fun cls d _ H => E cls d H) := takes_of rfl rfl rfl rfl
    refine ⟨_, (pss_cons (ps_expr (pe_call (ok_need_die T) (hr.mono (by decide)) (by rfl) T.g_need_die T.f_need_die.kp T.b_need_die .nil (passes_call tk fun _ _ _ _ h => h) (pa_cons (pv 0) pa_nil)))
    (pss_cons (ps_expr (pe_call (ok_need_die T) (hr.mono (by decide)) (by rfl) T.g_need_die T.f_need_die.kp T.b_need_die .nil (passes_call tk fun _ _ _ _ h => h) (pa_cons (pv 1) pa_nil)))
    (pss_one (ps_ret (pe_cmpR op_gt (pe_call (ok_throws_above T) (hr.mono (by decide)) (by rfl) T.g_throws_above T.f_throws_above.kp T.b_throws_above .nil pass0 (pa_cons (pv 0) (pa_cons (pv 1) pa_nil))) (pe_call (ok_throws_above T) (hr.mono (by decide)) (by rfl) T.g_throws_above T.f_throws_above.kp T.b_throws_above .nil pass0 (pa_cons (pv 1) (pa_cons (pv 0) pa_nil))) (nomark _)))))), ?_⟩
    refine ⟨v, rfl, v, rfl, tv, fun hv H1 e1 => ?_, fun hv H1 e1 => q2 (by rw [hv]; rfl) H1 e1⟩
    refine ⟨u, rfl, u, rfl, tu.mono e1, fun hu H2 e2 => ?_, fun hu H2 e2 => q2 (by rw [dieV_same e1 tu] at hu; rw [hu, Bool.and_false]) H2 (e1.trans e2)⟩
    rw [dieV_same e1 tu] at hu
    obtain ⟨a, ds, rfl, ha, g1⟩ := good_at hv
    obtain ⟨c, es, rfl, hc, g2⟩ := good_at hu
    have e12 := e1.trans e2
    refine ⟨_, rfl, _, rfl, a, c, ds, es, rfl, e12 _ _ ha, e12 _ _ hc, g1.2.1, g2.2.1, fun H3 e3 => ?_⟩
    have e13 := e12.trans e3
    refine ⟨_, rfl, _, rfl, c, a, es, ds, rfl, e13 _ _ hc, e13 _ _ ha, g2.2.1, g1.2.1, fun H4 e4 => ?_⟩
    exact ⟨_, _, rfl, rfl, q1 a c ds es rfl rfl ha hc g1 g2 H4 (e13.trans e4)⟩
/-! ### which places are beaten -/
theorem le_keep {a : Addr} {xs : List V} {g : TG} {tt : TT} {te : TE} {vs : List Nat} {σ : L2.St} {H1 : Hp} {D : Addr} {Qd : Hp → Prop} (keep : Nat → Bool) (nD : H1 D = none) (hS : SqL K H1 a xs) (len : xs.length < 1000000)
    (hs : ∀ (i : Nat) x T H' (R : V → Hp → Prop) (N : Hp → Prop), xs[i]? = some x → Same H1 H' → H' T = some (.tup [.int i, x]) → (keep i = true → ∀ H4, Same H' H4 → R (.int i) H4) → (keep i = false → ∀ H4, Same H' H4 → N H4) →
      g (.ref T) (wipe σ vs) H' fun σ2 H2 => wipe σ2 vs = wipe σ vs ∧ tt σ2 H2 fun b H3 => if b = true then te σ2 H3 R else N H3)
    (hd : ∀ H', Same H1 H' → H' D = some (.lst (((List.range xs.length).filter keep).map fun i => V.int (i : Nat))) → Qd H') :
    ∃ W : Nat → Nat → Hp → Prop, (∃ m, W 0 m (upd H1 D (.lst []))) ∧ ∀ i m H, W i m H →
      ((Ite K a).stop i H ∧ Qd H) ∨ ((Ite K a).go i H ∧ ∃ Nx : Hp → Prop, (∀ H', Nx H' → ∃ m', m' < m ∧ W (i + 1) m' H') ∧ ∀ x H', (Ite K a).yld i H x H' → g x (wipe σ vs) H' fun σ2 H2 => wipe σ2 vs = wipe σ vs ∧ tt σ2 H2 fun b H3 =>
        if b = true then te σ2 H3 fun y H4 => ∃ acc, H4 D = some (.lst acc) ∧ acc.length < sizeLine ∧ Nx (upd H4 D (.lst (acc ++ [y]))) else Nx H3) := by
  let Pv : Nat → Hp → Prop := fun i H => Same H1 H ∧ H D = some (.lst (((List.range i).filter keep).map fun i => V.int (i : Nat)))
  refine ⟨fun i m H => m = xs.length - i ∧ i ≤ xs.length ∧ Pv i H, ⟨_, rfl, Nat.zero_le _, same_new nD, upd_same⟩, ?_⟩
  rintro i m H ⟨rfl, hi, p1, p2⟩
  have q := p1.seq hS
  by_cases hlt : i < xs.length
  · refine .inr ⟨⟨xs, xs[i], q, by simp [hlt]⟩, Pv (i + 1), fun H' p' => ⟨xs.length - (i + 1), by omega, rfl, hlt, p'⟩, fun x H' y => ?_⟩
    obtain ⟨T, z, rfl, nT, rfl, hz⟩ := y
    have hz := hz xs q
    have e1 : Same H (upd H T (.tup [.int (i : Nat), z])) := same_new nT
    have rs : (List.range (i + 1)).filter keep = (List.range i).filter keep ++ if keep i = true then [i] else [] := by
      rw [List.range_succ, List.filter_append, List.filter_cons]
      split <;> rfl
    refine hs i z T _ _ _ hz (p1.trans e1) upd_same (fun kx H4 e4 => ?_) (fun kx H4 e4 => ?_)
    · have e14 := e1.trans e4
      refine ⟨_, e14 _ _ p2, ?_, same_old (p1.trans e14) nD, ?_⟩
      · refine sz_lt ?_
        rw [List.length_map]
        refine Nat.lt_of_le_of_lt (List.length_filter_le _ _) ?_
        rw [List.length_range]
        omega
      · rw [upd_same, rs, if_pos kx, List.map_append]
        rfl
    · refine ⟨p1.trans (e1.trans e4), ?_⟩
      rw [(e1.trans e4) _ _ p2, rs, if_neg (by rw [kx]; decide), List.append_nil]
  · have e : i = xs.length := by omega
    subst e
    exact .inl ⟨⟨xs, q, Nat.le_refl _⟩, hd H p1 p2⟩
def spPlaces : Sp := fun vs H Q _ => ∃ a ps dss, vs = [.ref a] ∧ DiceAt H a ps dss ∧ dss.length ≤ 8 ∧ (∀ ds ∈ dss, good ds) ∧
  ∀ H' D qs, Same H H' → H D = none → DiceAt H' D qs (beatL (placeB dss) dss.length) → Q (.ref D) H'
theorem ok_beaten_places (T : Lay K mg) : FnOk P w K mg base CX0 7 T.a_beaten_places T.d_beaten_places ["dice"] spPlaces := by
  refine T.f_beaten_places.ok sc_beaten_places (fun vs H Q E h => ?_) (fun cdv A outer s H vs Q E hr h => ?_)
  · obtain ⟨a, ps, dss, rfl, _⟩ := h
    rfl
  · obtain ⟨a, ps, dss, rfl, hD, l8, hg, q⟩ := h
    refine ⟨_, (pss_one (ps_ret (pe_lc (own := [("die", 1)]) (g := (gName 1)) rfl sc_beaten_places.nd (pi_list (pv 0)) (blkOk_by (N := nm_beaten_places) (sc := defScope st_beaten_places) (by decide +kernel)) (fun _ _ _ _ _ => (pg_name (i := 1) sc_beaten_places.nd rfl (Or.inr rfl))) (fun _ _ _ _ _ => pts_nil) (fun _ _ _ _ _ => (pe_lc (own := [("place", 2), ("other", 3)]) (g := (gTup K 2 (gCons (gName 2) (gCons (gName 3) gNil)))) rfl sc_beaten_places.nd (pi_same (t' := iEnum K _) (pi_enum (by rfl) T.n_enumerate (pa_cons (pv 0) pa_nil)) rfl) (blkOk_by (N := nm_beaten_places) (sc := { kind := ScopeKind.function, names := [(Str.ofString ".0", NameKind.local), (Str.ofString "die", NameKind.cell), (Str.ofString "enumerate", NameKind.globalImplicit), (Str.ofString "dice", NameKind.cell)], isGenerator := false, isCoroutine := false }) (by decide +kernel)) (fun _ _ _ _ _ => (pg_tup rfl (pgs_cons (pg_name (i := 2) sc_beaten_places.nd rfl (Or.inl rfl)) (pgs_cons (pg_name (i := 3) sc_beaten_places.nd rfl (Or.inl rfl)) pgs_nil)))) (fun _ _ _ _ _ => (pts_one (pt_val (pe_call (ok_beats T) (hr.mono (by decide)) (by rfl) T.g_beats T.f_beats.kp T.b_beats .nil passL (pa_cons (pv 1) (pa_cons (pv 3) pa_nil)))))) (fun _ _ _ _ _ => (pv 2))))))), ?_⟩
    have hl : ps.length = dss.length := paired_len hD.2
    refine ⟨_, rfl, a, rfl, ⟨_, sq_of hD.1⟩, fun D nD => ?_⟩
    refine ll_lists (K := K) (fun i c => (beatL (placeB dss) dss.length)[i]? = some c) nD (sq_of hD.1) (by rw [List.length_map]; omega) (fun i x H1 R hi e1 r N => ?_) (fun H1 M => ?_)
    · obtain ⟨p, hpi, rfl⟩ := map_at hi
      have hD1 := hD.mono e1
      obtain ⟨ds, hdi, hp⟩ := paired_at hD1.2 hpi
      have hin : i < dss.length := (List.getElem?_eq_some_iff.mp hdi).1
      refine ⟨rfl, iteT (B := N H1) ⟨_, rfl, a, _, rfl, sq_of hD1.1, fun D2 nD2 => ?_⟩⟩
      refine le_keep (K := K) (fun j => placeB dss (i : Int) (j : Int)) nD2 (sq_of hD1.1) (by rw [List.length_map]; omega) (fun j y Tt H2 R2 N2 hj e2 hT r0 r1 => ?_) (fun H2 e2 hD2 => ?_)
      · obtain ⟨u, huj, rfl⟩ := map_at hj
        have hD2 := hD1.mono e2
        obtain ⟨es, hej, hu⟩ := paired_at hD2.2 huj
        have hp2 := e2 _ _ hp
        have hb : placeB dss (i : Int) (j : Int) = beatsB ds es := place_at hdi hej
        have g1 := hg ds (List.mem_of_getElem? hdi)
        have g2 := hg es (List.mem_of_getElem? hej)
        refine ⟨Tt, [.int j, .ref u], rfl, st_of hT, rfl, .int j, [.ref u], rfl, .ref u, [], rfl, rfl, rfl, _, rfl, _, rfl, .ref p, .ref u, rfl, thing_die hp2, thing_die hu, fun a' c' ds' es' ea ec ha' hc' _ _ H3 e3 => ?_, fun z => ?_⟩
        · cases ea
          cases ec
          have e1' : ds' = ds := map_int_inj (HO.lst.inj (Option.some.inj (ha'.symm.trans hp2)))
          have e2' : es' = es := map_int_inj (HO.lst.inj (Option.some.inj (hc'.symm.trans hu)))
          subst e1'
          subst e2'
          refine ⟨_, rfl, ?_⟩
          cases hc : beatsB ds' es' with
          | true => exact iteT ⟨_, rfl, r0 (hb.trans hc) H3 e3⟩
          | false => exact iteF (r1 (hb.trans hc) H3 e3)
        · rw [dieV_die hp2, dieV_die hu, die_good g1, die_good g2] at z
          cases z
      · refine r H2 D2 ((rangeV 0 dss.length).filter (placeB dss (i : Int))) e2 nD2 ?_ ?_
        · rw [hD2, List.length_map, hl]
          unfold rangeV
          rw [List.filter_map, List.map_map]
          congr 2
          have e0 : ∀ j : Nat, (0 : Int) + (j : Int) = (j : Int) := fun j => by omega
          simp only [Function.comp_def, e0]
        · have := beat_at (b := placeB dss) (n := dss.length) (i := (i : Int)) (by omega) (by omega)
          rw [Int.toNat_natCast] at this
          exact this
    · obtain ⟨qs, cs, hR, lq, _, _, _, gd⟩ := M.made
      have hcs : cs = beatL (placeB dss) dss.length := ext_of (by
        have := paired_len hR.2
        unfold beatL
        rw [List.length_map, rangeV_len]
        rw [List.length_map] at lq
        omega) gd
      subst hcs
      exact q H1 D qs M.same nD hR
/-! ### rings from a row on -/
def spRingFrom (k : Nat) : Sp := fun vs H Q _ => ∃ (r B : Addr) (qs : List Addr) (row : List Int) (b : Int → Int → Bool) (n m : Nat) (len : Int), vs = [.ref r, .int len, .ref B] ∧ len = ((row.length + m : Nat) : Int) ∧ H r = some (.lst (row.map V.int)) ∧ DiceAt H B qs (beatL b n) ∧ n ≤ 8 ∧ Pth b n row ∧ m < k ∧
  (ringF b n m row = none → ∀ H', Same H H' → Q .non H') ∧ (∀ c, ringF b n m row = some c → ∀ H' p, Same H H' → (p = r ∨ H p = none) → H' p = some (.lst (c.map V.int)) → Q (.ref p) H')
theorem beat_list {H : Hp} {B : Addr} {qs : List Addr} {b : Int → Int → Bool} {n : Nat} (h : DiceAt H B qs (beatL b n)) {i : Int} (h0 : 0 ≤ i) (h1 : i < (n : Int)) :
    ∃ q, atI (qs.map V.ref) i = some (.ref q) ∧ H q = some (.lst (((rangeV 0 n).filter (b i)).map V.int)) := by
  have hl : qs.length = (beatL b n).length := paired_len h.2
  have hb : (beatL b n).length = n := by
    unfold beatL
    rw [List.length_map, rangeV_len]
  have hz : i.toNat < qs.length := by omega
  have hp : qs[i.toNat]? = some qs[i.toNat] := List.getElem?_eq_getElem hz
  obtain ⟨ds, hd, r⟩ := paired_at h.2 hp
  rw [beat_at h0 h1] at hd
  cases hd
  exact ⟨_, at_of (j := i.toNat) (by omega) (by rw [List.getElem?_map, hp]; rfl), r⟩
theorem beat_in {b : Int → Int → Bool} {n : Nat} {i j : Int} (h0 : 0 ≤ j) (h1 : j < (n : Int)) : ((rangeV 0 n).filter (b i)).contains j = b i j := by
  rw [List.contains_eq_mem, Bool.eq_iff_iff, decide_eq_true_eq, List.mem_filter, rangeV_mem]
  constructor
  · rintro ⟨_, h⟩
    exact h
  · intro h
    exact ⟨by omega, h⟩
theorem ok_ring_from (T : Lay K mg) : ∀ k : Nat, FnOk P w K mg base CX0 k T.a_ring_from T.d_ring_from ["row", "length", "beaten"] (spRingFrom k)
  | 0 => by
    have no : ∀ vs H Q E, ¬ spRingFrom 0 vs H Q E := fun vs H Q E h => by
      obtain ⟨_, _, _, _, _, _, m, _, _, _, _, _, _, _, h, _⟩ := h
      omega
    exact ⟨fun vs H Q E h => absurd h (no vs H Q E), fun A outer s H args us vs Q E _ _ _ _ h => absurd h (no vs H Q E)⟩
  | k + 1 => by
    have ih := ok_ring_from T k
    refine T.f_ring_from.ok sc_ring_from (fun vs H Q E h => ?_) (fun cdv A outer s H vs Q E hr h => ?_)
    · obtain ⟨_, _, _, _, _, _, _, _, rfl, _⟩ := h
      rfl
    · obtain ⟨r, B, qs, row, b, n, m, len, rfl, rfl, hrow, hB, hn, hp, hm, q1, q2⟩ := h
      refine ⟨_, (pss_cons (ps_if (pt_cmpR op_eq (pe_callB call_len_seq (by rfl) T.n_len PySem.boot_len (pa_cons (pv 0) pa_nil)) (pv 1) (nomark _)) (pss_one (ps_ret (pe_ifExp (pt_cmpR op_in_seq (pe_ix ix_list (pv 0) pe_int (fun _ _ => rfl)) (pe_ix ix_list (pv 2) (pe_ix ix_list (pv 0) (pe_un un_neg pe_int) (fun _ _ => rfl)) (fun _ _ => rfl)) (by rfl)) (pv 0) pe_non))) pss_nil)
    (pss_cons (ps_for PassesOwn.never rfl (pi_list (pe_ix ix_list (pv 2) (pe_ix ix_list (pv 0) (pe_un un_neg pe_int) (fun _ _ => rfl)) (fun _ _ => rfl))) (pg_name (i := 3) sc_ring_from.nd rfl (Or.inl rfl)) (pss_one (ps_if (PW.pt (pw_and (pt_cmpR op_gt (pv 3) (pe_ix ix_list (pv 0) pe_int (fun _ _ => rfl)) (nomark _)) (pw_and1 (pt_cmpR op_notIn_seq (pv 3) (pv 0) (by rfl))))) (pss_cons (ps_set (i := 4) sc_ring_from.nd rfl (Or.inl rfl) (pe_call ih hr (by rfl) T.g_ring_from T.f_ring_from.kp T.b_ring_from .nil pass0 (pa_cons (pe_op op_cat (pv 0) (pe_lst (pa_cons (pv 3) pa_nil))) (pa_cons (pv 1) (pa_cons (pv 2) pa_nil)))))
    (pss_one (ps_if (pt_cmpR op_notN (pv 4) pe_non (nomark _)) (pss_one (ps_ret (pv 4))) pss_nil))) pss_nil)))
    (pss_one (ps_ret pe_non)))), ?_⟩
      have hh : row[0]? = some (row.headD 0) := by
        have := head_of hp.ne
        rw [List.head?_eq_getElem?] at this
        exact this
      have hla : row[row.length - 1]? = some (row.getLastD 0) := by
        have := last_of hp.ne
        rw [List.getLast?_eq_getElem?] at this
        exact this
      have hhd := hp.inn _ (List.mem_of_mem_head? (head_of hp.ne))
      have hld := hp.inn _ (List.mem_of_getLast? (last_of hp.ne))
      obtain ⟨q, aq, hq⟩ := beat_list hB hld.1 hld.2
      refine ⟨_, rfl, r, _, rfl, .inl (sq_of hrow), _, rfl, rfl, _, rfl, iteD (fun c => ?_) (fun c => ?_)⟩
      · have c := V.int.inj c
        rw [List.length_map] at c
        have : m = 0 := by omega
        subst this
        refine ⟨_, rfl, r, _, 0, .int (row.headD 0), rfl, rfl, sq_of hrow, atI_nat (j := 0) (by rw [List.getElem?_map, hh]; rfl), _, rfl, _, rfl, 1, rfl, r, _, -1, .int (row.getLastD 0), rfl, rfl, sq_of hrow, atI_last_of (by rw [List.length_map, List.getElem?_map, hla]; rfl), B, _, row.getLastD 0, .ref q, rfl, rfl, sq_of hB.1, aq, q, _, rfl, .inl (sq_of hq), rfl, ints_flat _, _, rfl, ?_⟩
        rw [ring_in, beat_in hhd.1 hhd.2]
        have hf : ringF b n 0 row = if b (row.getLastD 0) (row.headD 0) = true then some row else none := rfl
        cases hb : b (row.getLastD 0) (row.headD 0) with
        | true =>
          rw [hb] at hf
          exact iteT ⟨_, rfl, q2 row hf H r (Same.refl H) (.inl rfl) hrow⟩
        | false =>
          rw [hb] at hf
          exact iteF (q1 hf H (Same.refl H))
      · have c : ¬ ((row.length : Nat) : Int) = ((row.length + m : Nat) : Int) := fun z => c (by rw [List.length_map]; exact congrArg V.int z)
        obtain ⟨m, rfl⟩ : ∃ j, m = j + 1 := ⟨m - 1, by omega⟩
        have hrf : ringF b n (m + 1) row = ((rangeV 0 n).filter (b (row.getLastD 0))).findSome? fun y => if (decide (row.headD 0 < y) && !row.contains y) = true then ringF b n m (row ++ [y]) else none := by
          show (stepR b n row).findSome? (fun y => ringF b n m (row ++ [y])) = _
          rw [step_is hhd.1 hhd.2, find_filter]
        rw [hrf] at q1 q2
        have hmem : ∀ y ∈ (rangeV 0 n).filter (b (row.getLastD 0)), (0 ≤ y ∧ y < (n : Int)) ∧ b (row.getLastD 0) y = true := fun y hy => by
          obtain ⟨h1, h2⟩ := List.mem_filter.mp hy
          have := rangeV_mem.mp h1
          exact ⟨by omega, h2⟩
        have hlen : ((rangeV 0 n).filter (b (row.getLastD 0))).length ≤ 8 := Nat.le_trans (List.length_filter_le _ _) (by rw [rangeV_len]; exact hn)
        have hll : row.length ≤ n := by
          have := nodup_len (S := rangeV 0 n) hp.nd fun x hx => rangeV_mem.mpr (by have := hp.inn x hx; omega)
          rw [rangeV_len] at this
          exact this
        generalize hL : (rangeV 0 n).filter (b (row.getLastD 0)) = L at *
        refine ⟨_, rfl, _, rfl, 1, rfl, r, _, -1, .int (row.getLastD 0), rfl, rfl, sq_of hrow, atI_last_of (by rw [List.length_map, List.getElem?_map, hla]; rfl), B, _, row.getLastD 0, .ref q, rfl, rfl, sq_of hB.1, aq, q, rfl, ⟨_, sq_of hq⟩, for_list (K := K) (a := q) (xs := L.map V.int)
          (fun i σ H' => Same H H' ∧ ((L.take i).findSome? fun y => if (decide (row.headD 0 < y) && !row.contains y) = true then ringF b n m (row ++ [y]) else none) = none ∧ ∃ y3 y4, σ = [some (.ref r), some (.int ((row.length + (m + 1) : Nat) : Int)), some (.ref B), y3, y4])
          ⟨Same.refl H, rfl, _, _, rfl⟩ (fun i σ H' _ ⟨e, _⟩ => sq_of (e _ _ hq)) ?_ ?_⟩
        · rintro i x σ H1 hi ⟨e1, hno, y3, y4, rfl⟩
          obtain ⟨y, hy, rfl⟩ := map_at hi
          have hmy := hmem y (List.mem_of_getElem? hy)
          have hrow1 := e1 _ _ hrow
          have tk : (L.take (i + 1)).findSome? (fun y => if (decide (row.headD 0 < y) && !row.contains y) = true then ringF b n m (row ++ [y]) else none) = (if (decide (row.headD 0 < y) && !row.contains y) = true then ringF b n m (row ++ [y]) else none) := by
            rw [take_snoc hy, List.findSome?_append, hno]
            rw [Option.none_or, List.findSome?_cons, List.findSome?_nil]
            generalize (if (decide (row.headD 0 < y) && !row.contains y) = true then ringF b n m (row ++ [y]) else none) = o
            cases o <;> rfl
          have found : ∀ c, (if (decide (row.headD 0 < y) && !row.contains y) = true then ringF b n m (row ++ [y]) else none) = some c → (L.findSome? fun y => if (decide (row.headD 0 < y) && !row.contains y) = true then ringF b n m (row ++ [y]) else none) = some c := fun c hc => by
            rw [← List.take_append_drop (i + 1) L, List.findSome?_append, tk, hc]
            rfl
          refine ⟨_, rfl, _, rfl, r, _, 0, .int (row.headD 0), rfl, rfl, sq_of hrow1, atI_nat (j := 0) (by rw [List.getElem?_map, hh]; rfl), y, _, rfl, rfl, _, rfl, iteD (fun cg => ?_) (fun cg => ?_)⟩
          · have cg' : row.headD 0 < y := cg
            refine ⟨_, rfl, _, rfl, r, _, rfl, .inl (sq_of hrow1), rfl, ints_flat row, _, rfl, ?_⟩
            rw [ring_in]
            cases hc : row.contains y with
            | true =>
              refine iteF ⟨e1, ?_, _, _, rfl⟩
              rw [tk, hc, Bool.not_true, Bool.and_false, if_neg (by decide)]
            | false =>
              rw [hc, decide_eq_true cg', Bool.not_false, Bool.true_and, if_pos rfl] at tk found
              refine iteT ⟨_, rfl, _, rfl, sz_ok (show 1 ≤ 1000000 by decide), ?_⟩
              intro n1 nn1
              have s1 := same_new (H := H1) (o := (.lst [.int y])) nn1
              have hn1 := upd_same (H := H1) (a := n1) (o := (.lst [.int y]))
              generalize upd H1 n1 (.lst [.int y]) = H2 at *
              refine ⟨r, n1, _, _, rfl, rfl, s1 _ _ hrow1, hn1, sz_ok (by rw [List.length_map]; show row.length + 1 ≤ _; omega), ?_⟩
              intro n2 nn2
              have s2 := same_new (H := H2) (o := (.lst (row.map V.int ++ [.int y]))) nn2
              have hn2 := upd_same (H := H2) (a := n2) (o := (.lst (row.map V.int ++ [.int y])))
              generalize upd H2 n2 (.lst (row.map V.int ++ [.int y])) = H3 at *
              have e03 := (e1.trans s1).trans s2
              have nn20 : H n2 = none := Same.free (e1.trans s1) nn2
              have hn2' : H3 n2 = some (.lst ((row ++ [y]).map V.int)) := by rw [hn2, List.map_append]; rfl
              have hp2 : Pth b n (row ++ [y]) := pth_more hp (step_mem.mpr ⟨⟨cg', hmy.1.2⟩, fun z => by
                rw [List.contains_eq_mem, decide_eq_false_iff_not] at hc
                exact hc z, hmy.2⟩)
              refine ⟨_, rfl, _, rfl, n2, B, qs, row ++ [y], b, n, m, _, rfl, ?_, hn2', hB.mono e03, hn, hp2, by omega, fun hz H4 e4 => ?_, fun c' hz H4 p e4 hpp hp4 => ?_⟩
              · rw [List.length_append]
                show ((row.length + (m + 1) : Nat) : Int) = ((row.length + 1 + m : Nat) : Int)
                omega
              · refine ⟨_, rfl, rfl, _, rfl, ?_⟩
                rw [decide_eq_true rfl]
                refine iteF ⟨e03.trans e4, ?_, _, _, rfl⟩
                rw [tk]
                exact hz
              · refine ⟨_, rfl, rfl, _, rfl, ?_⟩
                rw [decide_eq_false (fun z => nomatch z)]
                refine iteT ⟨_, rfl, q2 c' (found c' hz) H4 p (e03.trans e4) (.inr ?_) hp4⟩
                rcases hpp with z | z
                · rw [z]
                  exact nn20
                · exact Same.free e03 z
          · refine iteF ⟨e1, ?_, _, _, rfl⟩
            rw [tk, decide_eq_false (show ¬ row.headD 0 < y from cg), Bool.false_and, if_neg (by decide)]
        · rintro σ H1 ⟨e1, hno, y3, y4, rfl⟩
          rw [List.length_map, List.take_length] at hno
          exact q1 hno H1 e1
/-! ### the ring that is told -/
def spRing (C : Addr) : Sp := fun vs H Q E => ∃ v, vs = [v] ∧ DThing H v ∧
  (∀ a ps dss, v = .ref a → DiceAt H a ps dss → 1 ≤ dss.length → dss.length ≤ 8 → (∀ ds ∈ dss, good ds) →
    (IsRing (placeB dss) (rangeV 0 dss.length) none → ∀ H', Same H H' → Q .non H') ∧
    (∀ c, IsRing (placeB dss) (rangeV 0 dss.length) (some c) → ∀ H' p, Same H H' → H p = none → H' p = some (.lst (c.map V.int)) → Q (.ref p) H')) ∧
  (diceV H 8 v = true → ∃ a ps dss, v = .ref a ∧ DiceAt H a ps dss ∧ 1 ≤ dss.length ∧ dss.length ≤ 8 ∧ ∀ ds ∈ dss, good ds) ∧
  (diceV H 8 v = false → ∀ H', Same H H' → E (.ref C) none H')
theorem range_snoc (n : Nat) {j : Nat} (h : j < n) : (rangeV 0 n)[j]? = some (j : Int) := by
  unfold rangeV
  rw [List.getElem?_map, List.getElem?_range h]
  show some ((0 : Int) + (j : Int)) = _
  congr 1
  omega
theorem ok_ring (T : Lay K mg) : FnOk P w K mg base (L2.CX P w) 10 T.a_ring T.d_ring ["dice"] (spRing T.a_BadDice) := by
  refine T.f_ring.okX sc_ring (fun vs H Q E h => ?_) (fun cdv A outer s H vs Q E hr h => ?_)
  · obtain ⟨v, rfl, _⟩ := h
    rfl
  · obtain ⟨v, rfl, th, q1, q0, q2⟩ := h
    have tk : Takes (cxOf (L2.CX P w) P w K mg base nm_ring "ring" (defScope st_ring) T.a_ring cdv A outer s H E) (fun cls d _ H => E cls d H) := takes_of rfl rfl rfl rfl
    refine ⟨_, (pss_cons (ps_expr (pe_call (ok_need_dice T) (hr.mono (by decide)) (by rfl) T.g_need_dice T.f_need_dice.kp T.b_need_dice .nil (passes_call tk fun _ _ _ _ h => h) (pa_cons (pv 0) (pa_cons (pe_glob (v := .int 8) rfl T.c_MOST_PLACES ⟨_, rfl⟩) pa_nil))))
    (pss_cons (ps_set (i := 1) sc_ring.nd rfl (Or.inl rfl) (pe_call (ok_beaten_places T) (hr.mono (by decide)) (by rfl) T.g_beaten_places T.f_beaten_places.kp T.b_beaten_places .nil pass0 (pa_cons (pv 0) pa_nil)))
    (pss_cons (ps_for (passes_of rfl) rfl (pi_range2 (by rfl) T.n_range (pa_cons (pe_glob (v := .int 3) rfl T.c_LEAST_RING ⟨_, rfl⟩) (pa_cons (pe_op op_add (pe_callB call_len_seq (by rfl) T.n_len PySem.boot_len (pa_cons (pv 0) pa_nil)) pe_int) pa_nil))) (pg_name (i := 2) sc_ring.nd rfl (Or.inl rfl)) (pss_one (ps_for (passes_of rfl) rfl (pi_range1 (by rfl) T.n_range (pa_cons (pe_callB call_len_seq (by rfl) T.n_len PySem.boot_len (pa_cons (pv 0) pa_nil)) pa_nil)) (pg_name (i := 3) sc_ring.nd rfl (Or.inl rfl)) (pss_cons (ps_set (i := 4) sc_ring.nd rfl (Or.inl rfl) (pe_call (ok_ring_from T 9) (hr.mono (by decide)) (by rfl) T.g_ring_from T.f_ring_from.kp T.b_ring_from .nil pass0 (pa_cons (pe_lst (pa_cons (pv 3) pa_nil)) (pa_cons (pv 2) (pa_cons (pv 1) pa_nil)))))
    (pss_one (ps_if (pt_cmpR op_notN (pv 4) pe_non (nomark _)) (pss_one (ps_ret (pv 4))) pss_nil))))))
    (pss_one (ps_ret pe_non))))), ?_⟩
    refine ⟨_, rfl, v, 8, rfl, .inr rfl, th, fun hd H1 e1 => ?_, fun hd H1 e1 => q2 hd H1 e1⟩
    obtain ⟨a, ps, dss, rfl, hD, l1, l2, hg⟩ := q0 hd
    obtain ⟨qn, qs⟩ := q1 a ps dss rfl hD l1 l2 hg
    have hD1 := hD.mono e1
    refine ⟨_, rfl, a, ps, dss, rfl, hD1, l2, hg, fun H2 B bs e2 nB hB => ?_⟩
    have hl : ps.length = dss.length := paired_len hD.2
    have e02 := e1.trans e2
    have hD2 := hD.mono e02
    generalize placeB dss = b at *
    generalize hn : dss.length = n at *
    refine ⟨_, rfl, a, _, rfl, .inl (sq_of hD2.1), _, 1, rfl, rfl, _, _, rfl, ⟨by decide, by decide, by rw [List.length_map]; omega, by rw [List.length_map]; omega⟩, ?_⟩
    rw [List.length_map, hl]
    refine for_range (lo := 3) (n := (((n : Nat) : Int) + 1 - 3).toNat)
      (fun i σ H' => Same H2 H' ∧ (∀ j, j < 2 + i → closedR b (rowsR b n j) = []) ∧ ∃ y2 y3 y4, σ = [some (.ref a), some (.ref B), y2, y3, y4])
      ⟨Same.refl _, fun j hj => closed_short hj, _, _, _, rfl⟩ ?_ ?_
    · rintro i σ H3 hi ⟨e3, hno, y2, y3, y4, rfl⟩
      have hD3 := hD2.mono e3
      refine ⟨_, rfl, a, _, rfl, .inl (sq_of hD3.1), _, rfl, ?_⟩
      rw [List.length_map, hl]
      refine ⟨by omega, by omega, for_range (lo := 0) (n := n)
        (fun j σ H' => Same H2 H' ∧ ((rangeV 0 n).take j).findSome? (fun x => ringF b n (2 + i) [x]) = none ∧ ∃ y3 y4, σ = [some (.ref a), some (.ref B), some (.int (3 + (i : Nat))), y3, y4])
        ⟨e3, rfl, _, _, rfl⟩ ?_ ?_⟩
      · rintro j σ H4 hj ⟨e4, hnf, y3, y4, rfl⟩
        have hjj := range_snoc n hj
        have z0 : (0 : Int) + (j : Int) = (j : Int) := by omega
        rw [z0]
        refine ⟨_, rfl, sz_ok (show 1 ≤ 1000000 by decide), ?_⟩
        intro n1 nn1
        have s5 := same_new (H := H4) (o := (.lst [.int (j : Int)])) nn1
        have hn1 := upd_same (H := H4) (a := n1) (o := (.lst [.int (j : Int)]))
        generalize upd H4 n1 (.lst [.int (j : Int)]) = H5 at *
        have e5 := e4.trans s5
        have hp1 : Pth b n [(j : Int)] := ⟨by simp, List.nodup_cons.mpr ⟨by simp, List.nodup_nil⟩, fun x hx => by rw [List.mem_singleton.mp hx]; omega, trivial, fun x hx => by cases hx⟩
        have tks : ((rangeV 0 n).take (j + 1)).findSome? (fun x => ringF b n (2 + i) [x]) = ringF b n (2 + i) [(j : Int)] := by
          rw [take_snoc hjj, List.findSome?_append, hnf, Option.none_or, List.findSome?_cons, List.findSome?_nil]
          generalize ringF b n (2 + i) [(j : Int)] = o
          cases o <;> rfl
        refine ⟨_, rfl, _, rfl, n1, B, bs, [(j : Int)], b, n, 2 + i, _, rfl, ?_, hn1, hB.mono e5, l2, hp1, by omega, fun hz H6 e6 => ?_, fun c hz H6 p e6 hpp hp6 => ?_⟩
        · show (3 : Int) + (i : Int) = ((1 + (2 + i) : Nat) : Int)
          omega
        · refine ⟨_, rfl, rfl, _, rfl, ?_⟩
          rw [decide_eq_true rfl]
          refine iteF ⟨e5.trans e6, ?_, _, _, rfl⟩
          rw [tks]
          exact hz
        · refine ⟨_, rfl, rfl, _, rfl, ?_⟩
          rw [decide_eq_false (fun z => nomatch z)]
          have hall : (rangeV 0 n).findSome? (fun x => ringF b n (2 + i) [x]) = some c := by
            rw [← List.take_append_drop (j + 1) (rangeV 0 n), List.findSome?_append, tks, hz]
            rfl
          rw [starts_is (by omega)] at hall
          have e05 := e02.trans e5
          refine iteT ⟨_, rfl, qs c (ring_first hno hall) H6 p (e05.trans e6) ?_ hp6⟩
          rcases hpp with z | z
          · rw [z]
            exact Same.free (e02.trans e4) nn1
          · exact Same.free e05 z
      · rintro σ H4 ⟨e4, hnf, y3, y4, rfl⟩
        have hlen : (rangeV 0 n).length = n := rangeV_len 0 n
        rw [List.take_of_length_le (by omega), starts_is (by omega)] at hnf
        refine ⟨e4, fun j hj => ?_, _, _, _, rfl⟩
        by_cases hji : j < 2 + i
        · exact hno j hji
        · have : j = 2 + i := by omega
          subst this
          exact List.head?_eq_none_iff.mp hnf
    · rintro σ H3 ⟨e3, hno, y2, y3, y4, rfl⟩
      exact qn (ring_no fun j hj => hno j (by omega)) H3 (e02.trans e3)
/-! ### the ranks that are told -/
def spRanks (C : Addr) : Sp := fun vs H Q E => ∃ v, vs = [v] ∧ DThing H v ∧
  (∀ a ps dss, v = .ref a → DiceAt H a ps dss → 1 ≤ dss.length → dss.length ≤ 8 → (∀ ds ∈ dss, good ds) →
    (ranksF (placeB dss) dss.length (rangeV 0 dss.length) = none → ∀ H', Same H H' → Q .non H') ∧
    (∀ c, ranksF (placeB dss) dss.length (rangeV 0 dss.length) = some c → ∀ H' p, Same H H' → H p = none → H' p = some (.lst (c.map V.int)) → Q (.ref p) H')) ∧
  (diceV H 8 v = true → ∃ a ps dss, v = .ref a ∧ DiceAt H a ps dss ∧ 1 ≤ dss.length ∧ dss.length ≤ 8 ∧ ∀ ds ∈ dss, good ds) ∧
  (diceV H 8 v = false → ∀ H', Same H H' → E (.ref C) none H')
def freeB (b : Int → Int → Bool) (L : List Int) : V → Bool
  | .int x => (L.filter fun y => b y x).isEmpty
  | _ => false
def beatV (b : Int → Int → Bool) (x : Int) : V → Bool
  | .int y => b y x
  | _ => false
theorem any_free (b : Int → Int → Bool) (L : List Int) (x : Int) : (!(L.map fun y => b y x).any id) = (L.filter fun y => b y x).isEmpty := by
  induction L with
  | nil => rfl
  | cons y r ih =>
    rw [List.map_cons, List.any_cons, List.filter_cons]
    show (!(b y x || (r.map fun y => b y x).any id)) = _
    cases h : b y x with
    | true =>
      rw [if_pos rfl]
      rfl
    | false =>
      rw [if_neg (by decide), Bool.false_or]
      exact ih
theorem ok_ranks (T : Lay K mg) : FnOk P w K mg base (L2.CX P w) 10 T.a_ranks T.d_ranks ["dice"] (spRanks T.a_BadDice) := by
  refine T.f_ranks.okX sc_ranks (fun vs H Q E h => ?_) (fun cdv A outer s H vs Q E hr h => ?_)
  · obtain ⟨v, rfl, _⟩ := h
    rfl
  · obtain ⟨v, rfl, th, q1, q0, q2⟩ := h
    have tk : Takes (cxOf (L2.CX P w) P w K mg base nm_ranks "ranks" (defScope st_ranks) T.a_ranks cdv A outer s H E) (fun cls d _ H => E cls d H) := takes_of rfl rfl rfl rfl
    refine ⟨_, (pss_cons (ps_expr (pe_call (ok_need_dice T) (hr.mono (by decide)) (by rfl) T.g_need_dice T.f_need_dice.kp T.b_need_dice .nil (passes_call tk fun _ _ _ _ h => h) (pa_cons (pv 0) (pa_cons (pe_glob (v := .int 8) rfl T.c_MOST_PLACES ⟨_, rfl⟩) pa_nil))))
    (pss_cons (ps_set (i := 1) sc_ranks.nd rfl (Or.inr rfl) (pe_call (ok_beaten_places T) (hr.mono (by decide)) (by rfl) T.g_beaten_places T.f_beaten_places.kp T.b_beaten_places .nil pass0 (pa_cons (pv 0) pa_nil)))
    (pss_cons (ps_set (i := 2) sc_ranks.nd rfl (Or.inr rfl) (pe_listRg rfl (by rfl) T.n_list (prg_1 (by rfl) T.n_range (pe_callB call_len_seq (by rfl) T.n_len PySem.boot_len (pa_cons (pv 0) pa_nil)))))
    (pss_cons (ps_set (i := 3) sc_ranks.nd rfl (Or.inl rfl) (pe_lst pa_nil))
    (pss_cons (ps_while (passes_of rfl) (pt_truth (pv 2) (by intro _; rfl)) (pss_cons (ps_setLc (i := 4) (y := "unbeaten") (hy := rfl) (hyl := rfl) (hsw := sw_true rfl rfl rfl (by decide +kernel)) (own := [("place", 5)]) (g := (gName 5)) (hc := rfl) (hN := sc_ranks.nd) (hi := (pi_list (pv 2))) (ok := (blkOk_by (N := nm_ranks) (sc := defScope st_ranks) (by decide +kernel))) (hg := (fun _ _ _ _ _ => (pg_name (i := 5) sc_ranks.nd rfl (Or.inr rfl)))) (ht := (fun _ _ _ _ _ => (pts_one (pt_not (pt_val (pe_callB (id := "any") (r := rAny K) (cr_any rfl) (by rfl) T.n_any (by decide +kernel) (pa_cons (pe_lc (own := [("other", 6)]) (g := (gName 6)) rfl sc_ranks.nd (pi_same (t' := iList K _) (pi_list (pv 2)) rfl) (blkOk_by (N := nm_ranks) (sc := { kind := ScopeKind.function, names := [(Str.ofString ".0", NameKind.local), (Str.ofString "place", NameKind.cell), (Str.ofString "any", NameKind.globalImplicit), (Str.ofString "beaten", NameKind.cell), (Str.ofString "left", NameKind.cell)], isGenerator := false, isCoroutine := false }) (by decide +kernel)) (fun _ _ _ _ _ => (pg_name (i := 6) sc_ranks.nd rfl (Or.inl rfl))) (fun _ _ _ _ _ => pts_nil) (fun _ _ _ _ _ => (pe_cmpR (r := rIn K false) op_in_seq (pv 5) (pe_ix (r := rIxL K) ix_list (pv 1) (pv 6) (fun _ _ => rfl)) (by rfl)))) pa_nil))))))) (he := (fun _ _ _ _ _ => (pv 5))))
    (pss_cons (ps_if (pt_not (pt_truth (pv 4) (by intro _; rfl))) (pss_one (ps_ret pe_non)) pss_nil)
    (pss_cons (ps_expr (pe_bm PySem.F.plainAttrs_list PySem.F.slot_list_append PySem.F.type_list_append mt_append (pv 3) (pa_cons (pe_ix ix_list (pv 4) pe_int (fun _ _ => rfl)) pa_nil)))
    (pss_one (ps_expr (pe_bm PySem.F.plainAttrs_list PySem.F.slot_list_remove PySem.F.type_list_remove mt_remove (pv 2) (pa_cons (pe_ix ix_list (pv 4) pe_int (fun _ _ => rfl)) pa_nil))))))))
    (pss_one (ps_ret (pv 3)))))))), ?_⟩
    refine ⟨_, rfl, v, 8, rfl, .inr rfl, th, fun hd H1 e1 => ?_, fun hd H1 e1 => q2 hd H1 e1⟩
    obtain ⟨a, ps, dss, rfl, hD, l1, l2, hg⟩ := q0 hd
    obtain ⟨qn, qs⟩ := q1 a ps dss rfl hD l1 l2 hg
    have hD1 := hD.mono e1
    refine ⟨_, rfl, a, ps, dss, rfl, hD1, l2, hg, fun H2 B bs e2 nB hB => ?_⟩
    have hl : ps.length = dss.length := paired_len hD.2
    have e02 := e1.trans e2
    have hD2 := hD.mono e02
    generalize placeB dss = b at *
    generalize hn : dss.length = n at *
    refine ⟨_, rfl, a, _, rfl, .inl (sq_of hD2.1), _, rfl, RgOk.of_le (by omega) (by rw [List.length_map]; omega) (by omega) (by omega), ?_⟩
    rw [List.length_map, hl, rgV_is]
    intro r nr
    have s1 := same_new (H := H2) (o := (.lst ((rangeV 0 n).map V.int))) nr
    have hr1 := upd_same (H := H2) (a := r) (o := (.lst ((rangeV 0 n).map V.int)))
    generalize upd H2 r (.lst ((rangeV 0 n).map V.int)) = H3 at *
    refine ⟨Nat.zero_le _, ?_⟩
    intro f nf
    have s2 := same_new (H := H3) (o := (.lst [])) nf
    have hf2 := upd_same (H := H3) (a := f) (o := (.lst []))
    generalize upd H3 f (.lst []) = H4 at *
    have hr2 := s2 _ _ hr1
    have e24 := s1.trans s2
    have nfr : f ≠ r := fun z => by rw [z, hr1] at nf; cases nf
    have nr2 : H2 r = none := nr
    have nf2 : H2 f = none := Same.free s1 nf
    have nf0 : H f = none := Same.free e02 nf2
    let Wd : Nat → L2.St → Hp → Prop := fun m σ H' => ∃ (found left : List Int) (y4 ya yb : Option V), m = left.length ∧ Same H2 H' ∧ σ = [some (.ref a), some (.ref B), some (.ref r), some (.ref f), y4, ya, yb] ∧ H' r = some (.lst (left.map V.int)) ∧ H' f = some (.lst (found.map V.int)) ∧
        left.length ≤ n ∧ found.length + left.length = n ∧ (∀ x ∈ left, 0 ≤ x ∧ x < (n : Int)) ∧ ranksF b n (rangeV 0 n) = (ranksF b left.length left).map (found ++ ·)
    refine ⟨Wd, ⟨_, [], rangeV 0 n, none, none, none, rfl, e24, rfl, hr2, hf2, by rw [rangeV_len]; exact Nat.le_refl _, by rw [rangeV_len]; exact Nat.zero_add _, fun x hx => by have := rangeV_mem.mp hx; omega, by
        rw [rangeV_len]
        cases ranksF b n (rangeV 0 n) <;> rfl⟩, ?_⟩
    rintro m σ H5 ⟨found, left, y4, ya, yb, rfl, e5, rfl, hr5, hf5, ll, lf, hin, hrk⟩
    have hB5 := hB.mono e5
    refine ⟨_, rfl, _, .inl ⟨_, sq_of hr5, rfl⟩, ?_⟩
    cases hleft : left with
    | nil =>
      subst hleft
      refine iteF ?_
      have hrk2 : ranksF b n (rangeV 0 n) = some found := by
        rw [hrk]
        show some (found ++ []) = some found
        rw [List.append_nil]
      exact ⟨_, rfl, qs found hrk2 H5 f (e02.trans e5) nf0 hf5⟩
    | cons x0 rest0 =>
      rw [← hleft]
      have hk : left.length = (left.length - 1) + 1 := by rw [hleft]; simp
      have hemp : (left.map V.int).isEmpty = false := by rw [hleft]; rfl
      rw [hemp]
      refine iteT ?_
      refine ⟨fun σ' H' => ∃ m', m' < left.length ∧ Wd m' σ' H', fun _ _ h => h, ?_⟩
      clear hleft hemp
      -- the free ones
      refine ⟨_, rfl, r, rfl, ⟨_, sq_of hr5⟩, fun D nD => ?_⟩
      refine lc_map (K := K) (freeB b left) (fun v => v) nD (sq_of hr5) (by rw [List.length_map]; omega) (fun v H' R N hv e r0 r1 => ?_) (fun H6 e6 hD6 => ?_)
      · obtain ⟨x, hx, rfl⟩ := List.mem_map.mp hv
        have hx2 := hin x hx
        have hre := e _ _ hr5
        have hBe := hB5.mono e
        refine ⟨rfl, _, rfl, r, rfl, ⟨_, sq_of hre⟩, fun D2 nD2 => ?_⟩
        refine lc_all (K := K) (fun v => .bl (beatV b x v)) nD2 (sq_of hre) (by rw [List.length_map]; omega) (fun v2 H7 R2 hv2 e7 r2 N2 => ?_) (fun H7 e7 hD7 => ?_)
        · obtain ⟨y, hy, rfl⟩ := List.mem_map.mp hv2
          have hy2 := hin y hy
          have hBe7 := hBe.mono e7
          obtain ⟨q, aq, hq⟩ := beat_list hBe7 hy2.1 hy2.2
          refine ⟨rfl, iteT (B := N2 H7) ⟨_, rfl, _, rfl, _, rfl, B, _, y, .ref q, rfl, rfl, sq_of hBe7.1, aq, q, _, rfl, .inl (sq_of hq), rfl, ints_flat _, ?_⟩⟩
          rw [ring_in, beat_in hx2.1 hx2.2]
          exact r2 H7 (Same.refl H7)
        · have hD7' : H7 D2 = some (.lst ((left.map fun y => b y x).map V.bl)) := by
            rw [hD7, List.map_map, List.map_map]
            rfl
          refine ⟨D2, left.map (fun y => b y x), rfl, sq_of hD7', _, rfl, ?_⟩
          dsimp only
          rw [any_free]
          cases hfx : (left.filter fun y => b y x).isEmpty with
          | true => exact iteT ⟨_, rfl, r0 hfx H7 e7⟩
          | false => exact iteF (r1 hfx H7 e7)
      · have hfl : ((left.map V.int).filter (freeB b left)).map (fun v => v) = (freeL b left).map V.int := by
          rw [List.map_id', List.filter_map]
          rfl
        rw [hfl] at hD6
        have e56 := e5.trans e6
        have hr6 := e6 _ _ hr5
        have hf6 := e6 _ _ hf5
        refine ⟨_, rfl, _, .inl ⟨_, sq_of hD6, rfl⟩, ?_⟩
        rw [hk] at hrk
        cases hfree : freeL b left with
        | nil =>
          refine iteT (qn ?_ H6 (e02.trans e56))
          rw [hrk]
          unfold ranksF
          rw [hfree]
          rfl
        | cons x rest =>
          refine iteF ?_
          rw [hfree] at hD6
          have hxl : x ∈ left := (free_mem.mp (by rw [hfree]; exact List.mem_cons_self)).1
          refine ⟨_, rfl, .inl ⟨rfl, _, sq_of hf6⟩, _, rfl, D, _, 0, .int x, rfl, rfl, sq_of hD6, atI_nat (j := 0) rfl, f, _, _, rfl, rfl, hf6, sz_lt (by rw [List.length_map]; omega), ?_⟩
          have r_f : r ≠ f := nfr.symm
          have f_D : D ≠ f := (ne_of_none hf5 nD).symm
          have hr7 : (upd H6 f (.lst (found.map V.int ++ [.int x]))) r = some (.lst (left.map V.int)) := by
            rw [upd_ne r_f]
            exact hr6
          have hD7 : (upd H6 f (.lst (found.map V.int ++ [.int x]))) D = some (.lst ((x :: rest).map V.int)) := by
            rw [upd_ne f_D]
            exact hD6
          have hf7 := upd_same (H := H6) (a := f) (o := .lst (found.map V.int ++ [.int x]))
          have e07 : Same H2 (upd H6 f (.lst (found.map V.int ++ [.int x]))) := same_old e56 nf2
          generalize upd H6 f (.lst (found.map V.int ++ [.int x])) = H7 at *
          refine ⟨_, rfl, .inl ⟨rfl, _, sq_of hr7⟩, _, rfl, D, _, 0, .int x, rfl, rfl, sq_of hD7, atI_nat (j := 0) rfl, r, left, x, List.idxOf x left, rfl, rfl, hr7, ?_, ?_, ?_⟩
          · have hlt := List.idxOf_lt_length_iff.mpr hxl
            rw [List.getElem?_eq_getElem hlt, List.getElem_idxOf hlt]
          · intro m hm e
            obtain ⟨h1, h2⟩ := List.getElem?_eq_some_iff.mp e
            have z := List.not_of_lt_findIdx (p := (· == x)) (xs := left) hm
            simp [h2] at z
          · have le1 : (left.erase x).length = left.length - 1 := List.length_erase_of_mem hxl
            refine ⟨(left.erase x).length, by omega, found ++ [x], left.erase x, _, _, _, rfl, same_old e07 nr2, rfl, ?_, ?_, by omega, ?_, fun y hy => hin y (List.mem_of_mem_erase hy), ?_⟩
            · rw [upd_same, List.erase_eq_eraseIdx_of_idxOf rfl]
            · rw [upd_ne nfr, hf7, List.map_append]
              rfl
            · rw [List.length_append, le1]
              show found.length + 1 + (left.length - 1) = n
              omega
            · rw [hrk, le1]
              have e2 : ranksF b (left.length - 1 + 1) left = (ranksF b (left.length - 1) (left.erase x)).map (x :: ·) := by
                show (match freeL b left with
                  | [] => none
                  | x :: _ => (ranksF b (left.length - 1) (left.erase x)).map (x :: ·)) = _
                rw [hfree]
              rw [e2]
              cases ranksF b (left.length - 1) (left.erase x) with
              | none => rfl
              | some l =>
                show some (found ++ x :: l) = some (found ++ [x] ++ l)
                rw [List.append_assoc]
                rfl
def ToldAt (H : Hp) (v : V) : Option (List Int) → Prop
  | none => v = .non
  | some l => ∃ q, v = .ref q ∧ H q = some (.lst (l.map V.int)) ∧ l.length ≤ 1000
theorem ToldAt.mono {H H' : Hp} {v : V} {o : Option (List Int)} (e : Same H H') (h : ToldAt H v o) : ToldAt H' v o := by
  cases o with
  | none => exact h
  | some l =>
    obtain ⟨q, h1, h2, h3⟩ := h
    exact ⟨q, h1, e _ _ h2, h3⟩
/-! ### rings and ranks as they are told, either way -/
theorem ring_some {b : Int → Int → Bool} (n : Nat) : ∃ o, IsRing b (rangeV 0 n) o := by
  have key : ∀ m, (∀ j, j < m → closedR b (rowsR b n j) = []) ∨ ∃ o, IsRing b (rangeV 0 n) o := by
    intro m
    induction m with
    | zero => exact .inl fun j hj => by omega
    | succ m ih =>
      rcases ih with h | h
      · cases hc : closedR b (rowsR b n m) with
        | nil =>
          refine .inl fun j hj => ?_
          by_cases e : j = m
          · rw [e, hc]
          · exact h j (by omega)
        | cons c cs => exact .inr ⟨_, ring_first (k := m) h (by rw [hc]; rfl)⟩
      · exact .inr h
  rcases key n with h | h
  · exact ⟨_, ring_no h⟩
  · exact h
theorem ring_size {b : Int → Int → Bool} {n : Nat} {c : List Int} (h8 : n ≤ 8) (h : IsRing b (rangeV 0 n) (some c)) : c.length ≤ 8 := by
  have := nodup_len (S := rangeV 0 n) h.1.cyc.nd h.1.cyc.inn
  rw [rangeV_len] at this
  omega
theorem ranks_size {b : Int → Int → Bool} {n : Nat} {c : List Int} (h8 : n ≤ 8) (h : ranksF b n (rangeV 0 n) = some c) : c.length ≤ 8 := by
  have := (ranks_are n (rangeV_len 0 n) (range_nodup 0 n) h).1.length_eq
  rw [rangeV_len] at this
  omega
def Fresh (H : Hp) (v : V) : Prop := ∀ q, v = .ref q → H q = none
theorem ring_call {C : Addr} {H : Hp} {a : Addr} {ps : List Addr} {dss : List (List Int)} {o : Option (List Int)} {Q : VK} {E : XK} (hD : DiceAt H a ps dss) (l1 : 1 ≤ dss.length) (l8 : dss.length ≤ 8) (hg : ∀ ds ∈ dss, good ds)
    (ho : IsRing (placeB dss) (rangeV 0 dss.length) o) (k : ∀ H' v, Same H H' → ToldAt H' v o → Fresh H v → Q v H') : spRing C [.ref a] H Q E := by
  have hv : diceV H 8 (.ref a) = true := diceV_dice (m := 8) hD l1 l8 hg
  refine ⟨_, rfl, dthing_dice hD, fun a' ps' dss' ea hD' _ _ _ => ?_, fun _ => ⟨a, ps, dss, rfl, hD, l1, l8, hg⟩, fun z => ?_⟩
  · cases ea
    obtain ⟨_, e2⟩ := dice_uniq hD hD'
    subst e2
    refine ⟨fun h H' e => ?_, fun c h H' p e np hp => ?_⟩
    · have := ring_one ho h
      subst this
      exact k H' .non e rfl fun q z => nomatch z
    · have := ring_one ho h
      subst this
      exact k H' (.ref p) e ⟨p, rfl, hp, Nat.le_trans (ring_size l8 h) (by decide)⟩ fun q z => by cases z; exact np
  · rw [hv] at z
    cases z
theorem ranks_call {C : Addr} {H : Hp} {a : Addr} {ps : List Addr} {dss : List (List Int)} {o : Option (List Int)} {Q : VK} {E : XK} (hD : DiceAt H a ps dss) (l1 : 1 ≤ dss.length) (l8 : dss.length ≤ 8) (hg : ∀ ds ∈ dss, good ds)
    (ho : ranksF (placeB dss) dss.length (rangeV 0 dss.length) = o) (k : ∀ H' v, Same H H' → ToldAt H' v o → Fresh H v → Q v H') : spRanks C [.ref a] H Q E := by
  have hv : diceV H 8 (.ref a) = true := diceV_dice (m := 8) hD l1 l8 hg
  refine ⟨_, rfl, dthing_dice hD, fun a' ps' dss' ea hD' _ _ _ => ?_, fun _ => ⟨a, ps, dss, rfl, hD, l1, l8, hg⟩, fun z => ?_⟩
  · cases ea
    obtain ⟨_, e2⟩ := dice_uniq hD hD'
    subst e2
    refine ⟨fun h H' e => ?_, fun c h H' p e np hp => ?_⟩
    · have := ho.symm.trans h
      subst this
      exact k H' .non e rfl fun q z => nomatch z
    · have := ho.symm.trans h
      subst this
      exact k H' (.ref p) e ⟨p, rfl, hp, Nat.le_trans (ranks_size l8 h) (by decide)⟩ fun q z => by cases z; exact np
  · rw [hv] at z
    cases z
theorem told_or {H : Hp} {v : V} {o : Option (List Int)} (h : ToldAt H v o) : v = .non ∨ ∃ q xs, v = .ref q ∧ H q = some (.lst xs) ∧ xs.length ≤ 1000 := by
  cases o with
  | none => exact .inl h
  | some l =>
    obtain ⟨q, h1, h2, h3⟩ := h
    exact .inr ⟨q, _, h1, h2, by rw [List.length_map]; exact h3⟩
def spRing2 : Sp := fun vs H Q _ => ∃ a ps dss o, vs = [.ref a] ∧ DiceAt H a ps dss ∧ 1 ≤ dss.length ∧ dss.length ≤ 8 ∧ (∀ ds ∈ dss, good ds) ∧ IsRing (placeB dss) (rangeV 0 dss.length) o ∧ ∀ H' v, Same H H' → ToldAt H' v o → Fresh H v → Q v H'
theorem ok_ring2 (T : Lay K mg) : FnOk P w K mg base (L2.CX P w) 10 T.a_ring T.d_ring ["dice"] spRing2 := (ok_ring T).imp fun vs H Q E h => by
  obtain ⟨a, ps, dss, o, rfl, hD, l1, l8, hg, ho, k⟩ := h
  exact ring_call hD l1 l8 hg ho k
def spRanks2 : Sp := fun vs H Q _ => ∃ a ps dss o, vs = [.ref a] ∧ DiceAt H a ps dss ∧ 1 ≤ dss.length ∧ dss.length ≤ 8 ∧ (∀ ds ∈ dss, good ds) ∧ ranksF (placeB dss) dss.length (rangeV 0 dss.length) = o ∧ ∀ H' v, Same H H' → ToldAt H' v o → Fresh H v → Q v H'
theorem ok_ranks2 (T : Lay K mg) : FnOk P w K mg base (L2.CX P w) 10 T.a_ranks T.d_ranks ["dice"] spRanks2 := (ok_ranks T).imp fun vs H Q E h => by
  obtain ⟨a, ps, dss, o, rfl, hD, l1, l8, hg, ho, k⟩ := h
  exact ranks_call hD l1 l8 hg ho k
end
end My

namespace My
open PySem PySem.Spec PyProof.Rows L2
open PySem.W (Datum Tup)
section
variable {P : Program} {w : World} {K : PySem.W.Frag} {mg : Str → Option Value} {base : Heap}
/-! ### the law's own walk along a ring -/
theorem chn_at {b : Int → Int → Bool} : ∀ {c : List Int} {i : Nat} {x y : Int}, Chn b c → c[i]? = some x → c[i + 1]? = some y → b x y = true
  | [], i, x, y, _, h, _ => by simp at h
  | [_], 0, x, y, _, _, h => by simp at h
  | [_], i + 1, x, y, _, h, _ => by simp at h
  | u :: v :: r, 0, x, y, h, h1, h2 => by
    have e1 : u = x := Option.some.inj h1
    have e2 : v = y := Option.some.inj h2
    subst e1
    subst e2
    have h' : b u v = true ∧ Chn b (v :: r) := h
    exact h'.1
  | u :: v :: r, i + 1, x, y, h, h1, h2 => by
    have h' : b u v = true ∧ Chn b (v :: r) := h
    exact chn_at (c := v :: r) (i := i) h'.2 h1 h2
theorem cyc_next {b : Int → Int → Bool} {S c : List Int} (h : Cyc b S c) {i : Nat} {x y : Int} (hx : c[i]? = some x) (hy : (c.drop 1 ++ c.take 1)[i]? = some y) : b x y = true := by
  obtain ⟨u, r, rfl⟩ : ∃ u r, c = u :: r := by
    cases c with
    | nil => exact absurd rfl h.ne
    | cons u r => exact ⟨u, r, rfl⟩
  have hy : (r ++ [u])[i]? = some y := hy
  by_cases c : i < r.length
  · rw [List.getElem?_append_left c] at hy
    exact chn_at h.chn hx (by rw [List.getElem?_cons_succ]; exact hy)
  · have hl := (List.getElem?_eq_some_iff.mp hx).1
    rw [List.length_cons] at hl
    have ei : i = r.length := by omega
    subst ei
    rw [List.getElem?_append_right (Nat.le_refl _), Nat.sub_self] at hy
    have e : u = y := Option.some.inj hy
    subst e
    refine h.shut u x rfl ?_
    rw [List.getLast?_eq_getElem?, List.length_cons]
    exact hx
def spIsRing : Sp := fun vs H Q _ => ∃ a ps dss q c, vs = [.ref a, .ref q] ∧ DiceAt H a ps dss ∧ dss.length ≤ 8 ∧ H q = some (.lst (c.map V.int)) ∧ RingAt (placeB dss) (rangeV 0 dss.length) c ∧ ∀ H', Same H H' → Q (.bl true) H'
theorem all_trues {α : Type} : ∀ l : List α, (l.map fun _ => true).all id = true
  | [] => rfl
  | _ :: r => by rw [List.map_cons, List.all_cons, all_trues r]; rfl
theorem neF {x y : Int} {A B : Prop} (e : x = y) (h : B) : if (!decide (V.int x = V.int y)) = true then A else B := by
  rw [decide_eq_true (congrArg V.int e)]
  exact iteF h
theorem cut_last (l : List V) : cutV l (some 1) none = l.drop 1 := cut_from l (k := 1) (by decide)
theorem ok_law_is_ring (T : Lay K mg) : FnOk P w K mg base CX0 2 T.a_law_is_ring T.d_law_is_ring ["_law_dice_here", "_law_found"] spIsRing := by
  refine T.f_law_is_ring.ok sc_law_is_ring (fun vs H Q E h => ?_) (fun cdv A outer s H vs Q E hr h => ?_)
  · obtain ⟨_, _, _, _, _, rfl, _⟩ := h
    rfl
  · obtain ⟨a, ps, dss, q, c, rfl, hD, l8, hq, hR, k⟩ := h
    refine ⟨_, (pss_cons (ps_if (PW.pt (pw_or (pt_cmpR op_lt (pe_callB call_len_seq (by rfl) T.n_len PySem.boot_len (pa_cons (pv 1) pa_nil)) pe_int (nomark _)) (pw_or (pt_cmpR op_ne (RZ.pe_lenSetI (by rfl) T.n_len (by rfl) T.n_set (pv 1)) (pe_callB call_len_seq (by rfl) T.n_len PySem.boot_len (pa_cons (pv 1) pa_nil)) (nomark _)) (pw_or1 (pt_cmpR op_ne (pe_callB (cr_min rfl) (by rfl) T.n_min (by decide +kernel) (pa_cons (pv 1) pa_nil)) (pe_ix ix_list (pv 1) pe_int (fun _ _ => rfl)) (nomark _)))))) (pss_one (ps_ret pe_bl)) pss_nil)
    (pss_cons (ps_if (pt_not (pt_val (pe_callB (cr_all rfl) (by rfl) T.n_all (by decide +kernel) (pa_cons (pe_lc (own := [("_law_place", 2)]) (g := (gName 2)) rfl sc_law_is_ring.nd (pi_list (pv 1)) (blkOk_by (N := nm_law_is_ring) (sc := defScope st_law_is_ring) (by decide +kernel)) (fun _ _ _ _ _ => (pg_name (i := 2) sc_law_is_ring.nd rfl (Or.inl rfl))) (fun _ _ _ _ _ => pts_nil) (fun _ _ _ _ _ => (pe_chain op_le op_lt pe_int (pv 2) (pe_callB (id := "len") (r := rLenSeq K) call_lenSeq (by rfl) T.n_len PySem.boot_len (pa_cons (pv 0) pa_nil))))) pa_nil)))) (pss_one (ps_ret pe_bl)) pss_nil)
    (pss_cons (ps_for PassesOwn.never rfl (pi_zip (by rfl) T.n_zip (pa_cons (pv 1) (pa_cons (pe_op op_cat (pe_slice sl_list (pv 1) (po_some pe_int) po_none) (pe_slice sl_list (pv 1) po_none (po_some pe_int))) pa_nil))) (pg_tup rfl (pgs_cons (pg_name (i := 2) sc_law_is_ring.nd rfl (Or.inl rfl)) (pgs_cons (pg_name (i := 3) sc_law_is_ring.nd rfl (Or.inl rfl)) pgs_nil))) (pss_one (ps_if (pt_not (pt_val (pe_call (ok_law_beats T) (hr.mono (by decide)) (by rfl) T.g_law_beats T.f_law_beats.kp T.b_law_beats .nil pass0 (pa_cons (pe_ix ix_list (pv 0) (pv 2) (fun _ _ => rfl)) (pa_cons (pe_ix ix_list (pv 0) (pv 3) (fun _ _ => rfl)) pa_nil))))) (pss_one (ps_ret pe_bl)) pss_nil)))
    (pss_one (ps_ret pe_bl))))), ?_⟩
    have hl : ps.length = dss.length := paired_len hD.2
    have hin : ∀ x ∈ c, 0 ≤ x ∧ x < ((dss.length : Nat) : Int) := fun x hx => by
      have := rangeV_mem.mp (hR.cyc.inn x hx)
      omega
    have hc8 : c.length ≤ 8 := by
      have := nodup_len hR.cyc.nd hR.cyc.inn
      rw [rangeV_len] at this
      omega
    have h3 := hR.three
    have hh := head_of hR.cyc.ne
    have hh0 : c[0]? = some (c.headD 0) := by rw [List.head?_eq_getElem?] at hh; exact hh
    refine ⟨_, rfl, q, _, rfl, .inl (sq_of hq), _, 3, rfl, rfl, _, rfl, iteD (fun z => ?_) (fun _ => ?_)⟩
    · exfalso
      rw [List.length_map] at z
      omega
    refine ⟨_, rfl, q, c, rfl, sq_of hq, hR.cyc.nd, by omega, _, rfl, q, _, rfl, .inl (sq_of hq), rfl, _, rfl, neF (by rw [List.length_map]) ?_⟩
    refine ⟨_, rfl, q, c, rfl, sq_of hq, by omega, fun m hm hle => ?_⟩
    have em : m = c.headD 0 := by
      have h1 := hR.least _ hh m hm
      have h2 := hle _ (List.mem_of_mem_head? hh)
      omega
    refine ⟨_, rfl, q, _, 0, .int (c.headD 0), rfl, rfl, sq_of hq, atI_nat (j := 0) (by rw [List.getElem?_map, hh0]; rfl), rfl, _, rfl, neF em ?_⟩
    -- all within
    refine ⟨_, rfl, q, rfl, ⟨_, sq_of hq⟩, fun D nD => ?_⟩
    refine lc_all (K := K) (fun _ => .bl true) nD (sq_of hq) (by rw [List.length_map]; omega) (fun x H' R hx e r N => ?_) (fun H1 e1 hD1 => ?_)
    · obtain ⟨y, hy, rfl⟩ := List.mem_map.mp hx
      have hy2 := hin y hy
      refine ⟨rfl, iteT (B := N H') ⟨_, rfl, 0, y, rfl, rfl, _, rfl, iteD (fun _ => ?_) (fun z => absurd hy2.1 z)⟩⟩
      refine ⟨_, rfl, a, _, rfl, .inl (sq_of (hD.mono e).1), y, _, rfl, rfl, ?_⟩
      rw [List.length_map, hl]
      dsimp only
      rw [decide_eq_true hy2.2]
      exact r H' (Same.refl H')
    · have hD1' : H1 D = some (.lst ((c.map fun _ => true).map V.bl)) := by
        rw [hD1, List.map_map, List.map_map]
        rfl
      refine ⟨D, c.map fun _ => true, rfl, sq_of hD1', _, rfl, ?_⟩
      rw [all_trues]
      refine iteF ?_
      have hq1 := e1 _ _ hq
      -- the next ones
      refine ⟨_, rfl, _, rfl, 1, rfl, q, _, rfl, sq_of hq1, ?_⟩
      intro d1 nd1
      have s2 := same_new (H := H1) (o := (.lst (cutV (c.map V.int) (some 1) none))) nd1
      have hd1 := upd_same (H := H1) (a := d1) (o := (.lst (cutV (c.map V.int) (some 1) none)))
      generalize upd H1 d1 (.lst (cutV (c.map V.int) (some 1) none)) = H2 at *
      refine ⟨_, rfl, 1, rfl, q, _, rfl, sq_of (s2 _ _ hq1), ?_⟩
      intro d2 nd2
      have s3 := same_new (H := H2) (o := (.lst (cutV (c.map V.int) none (some 1)))) nd2
      have hd2 := upd_same (H := H2) (a := d2) (o := (.lst (cutV (c.map V.int) none (some 1))))
      generalize upd H2 d2 (.lst (cutV (c.map V.int) none (some 1))) = H3 at *
      rw [cut_last] at hd1
      rw [cut_to _ (by decide)] at hd2
      refine ⟨d1, d2, _, _, rfl, rfl, s3 _ _ hd1, hd2, sz_ok (by rw [List.length_drop, List.length_take, List.length_map]; omega), ?_⟩
      intro d3 nd3
      have s4 := same_new (H := H3) (o := (.lst ((c.map V.int).drop 1 ++ (c.map V.int).take (1 : Int).toNat))) nd3
      have hd3 := upd_same (H := H3) (a := d3) (o := (.lst ((c.map V.int).drop 1 ++ (c.map V.int).take (1 : Int).toNat)))
      generalize upd H3 d3 (.lst ((c.map V.int).drop 1 ++ (c.map V.int).take (1 : Int).toNat)) = H4 at *
      have hd3' : H4 d3 = some (.lst ((c.drop 1 ++ c.take 1).map V.int)) := by
        rw [hd3, List.map_append, List.map_drop, List.map_take]
        rfl
      have e14 := (s2.trans s3).trans s4
      have e04 := e1.trans e14
      have hq4 := e14 _ _ hq1
      have hlen : (c.map V.int).length = ((c.drop 1 ++ c.take 1).map V.int).length := by
        rw [List.length_map, List.length_map, List.length_append, List.length_drop, List.length_take]
        omega
      refine ⟨q, d3, _, _, rfl, sq_of hq4, sq_of hd3', RZ.for_zipL hlen
        (fun i σ H' => Same H4 H' ∧ ∃ y2 y3, σ = [some (.ref a), some (.ref q), y2, y3]) ⟨Same.refl _, _, _, rfl⟩ (fun i σ H' ⟨e, _⟩ => ⟨sq_of (e _ _ hq4), sq_of (e _ _ hd3')⟩) ?_ ?_⟩
      · rintro i x0 y0 T σ H5 hx0 hy0 ⟨e5, y2, y3, rfl⟩ nT
        obtain ⟨x, hx, rfl⟩ := map_at hx0
        obtain ⟨y, hy, rfl⟩ := map_at hy0
        have hb := cyc_next hR.cyc hx hy
        have hx2 := hin x (List.mem_of_getElem? hx)
        have hy2 : 0 ≤ y ∧ y < ((dss.length : Nat) : Int) := by
          have hm := List.mem_of_getElem? hy
          rcases List.mem_append.mp hm with z | z
          · exact hin y (List.mem_of_mem_drop z)
          · exact hin y (List.mem_of_mem_take z)
        have s6 : Same H5 (upd H5 T (.tup [.int x, .int y])) := same_new nT
        have hT := upd_same (H := H5) (a := T) (o := .tup [.int x, .int y])
        generalize upd H5 T (.tup [.int x, .int y]) = H6 at *
        have e6 := e5.trans s6
        have hD6 := hD.mono (e04.trans e6)
        obtain ⟨px, dx, ax, hpx, gx⟩ := place_of hD6 hx2.1 (by omega)
        obtain ⟨py, dy, ay, hpy, gy⟩ := place_of hD6 hy2.1 (by omega)
        have hbv := place_val (z := x) (y := y) gx gy
        refine ⟨T, [.int x, .int y], rfl, st_of hT, rfl, .int x, [.int y], rfl, .int y, [], rfl, rfl, ?_⟩
        refine ⟨_, rfl, _, rfl, a, _, x, .ref px, rfl, rfl, sq_of hD6.1, ax, _, rfl, _, rfl, a, _, y, .ref py, rfl, rfl, sq_of hD6.1, ay, px, py, dx, dy, rfl, hpx, hpy, fun H7 e7 => ⟨_, rfl, ?_⟩⟩
        rw [← hbv, hb]
        exact iteF ⟨e6.trans e7, _, _, rfl⟩
      · rintro σ H5 ⟨e5, y2, y3, rfl⟩
        exact k H5 (e04.trans e5)
end
end My

namespace My
open PySem PySem.Spec PyProof.Rows L2
open PySem.W (Datum Tup)
section
variable {P : Program} {w : World} {K : PySem.W.Frag} {mg : Str → Option Value} {base : Heap}
/-! ### the law's own look at ranks -/
theorem for_enum {g : TG} {tb : TS} {D : Ends} {σ : L2.St} {H : Hp} {a : Addr} {xs : List V} (Pv : Nat → L2.St → Hp → Prop) (h0 : Pv 0 σ H) (hl : ∀ i σ H, Pv i σ H → SqL K H a xs)
    (hs : ∀ (i : Nat) x σ H T, xs[i]? = some x → Pv i σ H → H T = none → g (.ref T) σ (upd H T (.tup [.int i, x])) fun σ2 H2 => tb { D with nx := Pv (i + 1), ct := Pv (i + 1), bk := D.nx } σ2 H2)
    (hd : ∀ σ H, Pv xs.length σ H → D.nx σ H) :
    ∃ W : Nat → Nat → L2.St → Hp → Prop, (∃ m, W 0 m σ H) ∧ ∀ i m σ H, W i m σ H →
      ((Ite K a).stop i H ∧ D.nx σ H) ∨ ((Ite K a).go i H ∧ ∃ N : L2.St → Hp → Prop, (∀ σ' H', N σ' H' → ∃ m', m' < m ∧ W (i + 1) m' σ' H') ∧ ∀ x H', (Ite K a).yld i H x H' → g x σ H' fun σ2 H2 => tb { D with nx := N, ct := N, bk := D.nx } σ2 H2) := by
  refine ⟨fun i m σ H => m = xs.length - i ∧ i ≤ xs.length ∧ Pv i σ H, ⟨_, rfl, Nat.zero_le _, h0⟩, ?_⟩
  rintro i m σ H ⟨rfl, hi, p⟩
  have q := hl i σ H p
  by_cases hlt : i < xs.length
  · have hx : xs[i]? = some xs[i] := List.getElem?_eq_getElem hlt
    refine .inr ⟨⟨xs, _, q, hx⟩, Pv (i + 1), fun σ' H' p' => ⟨xs.length - (i + 1), by omega, rfl, hlt, p'⟩, fun v H' y => ?_⟩
    obtain ⟨T, x', rfl, nT, rfl, f1⟩ := y
    exact hs i x' σ H T (f1 xs q) p nT
  · have e : i = xs.length := by omega
    subst e
    exact .inl ⟨⟨xs, q, Nat.le_refl _⟩, hd σ H p⟩
def spAreRanks : Sp := fun vs H Q _ => ∃ (a : Addr) (ps : List Addr) (dss : List (List Int)) (q : Addr) (l : List Int), vs = [.ref a, .ref q] ∧ DiceAt H a ps dss ∧ dss.length ≤ 8 ∧ H q = some (.lst (l.map V.int)) ∧ l.Perm (rangeV 0 dss.length) ∧ l.Pairwise (fun x y => placeB dss y x = false) ∧ ∀ H', Same H H' → Q (.bl true) H'
theorem range_sorted (n : Nat) : (rangeV 0 n).Pairwise (· ≤ ·) := (range_rises 0 n).imp fun h => by omega
theorem ok_law_are_ranks (T : Lay K mg) : FnOk P w K mg base CX0 2 T.a_law_are_ranks T.d_law_are_ranks ["_law_dice_here", "_law_found"] spAreRanks := by
  refine T.f_law_are_ranks.ok sc_law_are_ranks (fun vs H Q E h => ?_) (fun cdv A outer s H vs Q E hr h => ?_)
  · obtain ⟨_, _, _, _, _, rfl, _⟩ := h
    rfl
  · obtain ⟨a, ps, dss, q, l, rfl, hD, l8, hq, hP, hW, k⟩ := h
    refine ⟨_, (pss_cons (ps_if (pt_cmpR (op_neP hr.units) (pe_callB cr_sortedI (by rfl) T.n_sorted (by decide +kernel) (pa_cons (pv 1) pa_nil)) (pe_listRg rfl (by rfl) T.n_list (prg_1 (by rfl) T.n_range (pe_callB call_len_seq (by rfl) T.n_len PySem.boot_len (pa_cons (pv 0) pa_nil)))) (nomark _)) (pss_one (ps_ret pe_bl)) pss_nil)
    (pss_cons (ps_for PassesOwn.never rfl (pi_enum (by rfl) T.n_enumerate (pa_cons (pv 1) pa_nil)) (pg_tup rfl (pgs_cons (pg_name (i := 2) sc_law_are_ranks.nd rfl (Or.inl rfl)) (pgs_cons (pg_name (i := 3) sc_law_are_ranks.nd rfl (Or.inr rfl)) pgs_nil))) (pss_one (ps_if (pt_cmpR (op_neP hr.units) (pe_lc (own := [("_law_other", 4)]) (g := (gName 4)) rfl sc_law_are_ranks.nd (pi_list (pe_slice sl_list (pv 1) (po_some (pe_op op_add (pv 2) pe_int)) po_none)) (blkOk_by (N := nm_law_are_ranks) (sc := defScope st_law_are_ranks) (by decide +kernel)) (fun _ _ _ _ _ => (pg_name (i := 4) sc_law_are_ranks.nd rfl (Or.inl rfl))) (fun _ _ _ _ _ => (pts_one (pt_val (pe_call (ok_law_beats T) (hr.mono (by decide)) (by rfl) T.g_law_beats T.f_law_beats.kp T.b_law_beats .nil pass0 (pa_cons (pe_ix (r := rIxL K) ix_list (pv 0) (pv 4) (fun _ _ => rfl)) (pa_cons (pe_ix (r := rIxL K) ix_list (pv 0) (pv 3) (fun _ _ => rfl)) pa_nil)))))) (fun _ _ _ _ _ => (pv 4))) (pe_lst pa_nil) (nomark _)) (pss_one (ps_ret pe_bl)) pss_nil)))
    (pss_one (ps_ret pe_bl)))), ?_⟩
    have hl : ps.length = dss.length := paired_len hD.2
    have hin : ∀ x ∈ l, 0 ≤ x ∧ x < ((dss.length : Nat) : Int) := fun x hx => by
      have := rangeV_mem.mp (hP.mem_iff.mp hx)
      omega
    have hlen : l.length = dss.length := by
      rw [hP.length_eq, rangeV_len]
    refine ⟨_, rfl, q, l, rfl, sq_of hq, fun ns' p perm rising np => ?_⟩
    have s1 : Same H (upd H p (.lst (ns'.map V.int))) := same_new np
    have hp := upd_same (H := H) (a := p) (o := .lst (ns'.map V.int))
    generalize upd H p (.lst (ns'.map V.int)) = H1 at *
    have en : ns' = rangeV 0 dss.length := (perm.trans hP).eq_of_pairwise (fun x y _ _ h1 h2 => Int.le_antisymm h1 h2) rising (range_sorted _)
    subst en
    refine ⟨_, rfl, a, _, rfl, .inl (sq_of (hD.mono s1).1), _, rfl, RgOk.of_le (by omega) (by rw [List.length_map]; omega) (by omega) (by omega), ?_⟩
    rw [List.length_map, hl, rgV_is]
    intro r nr
    have s2 := same_new (H := H1) (o := (.lst ((rangeV 0 dss.length).map V.int))) nr
    have hr2 := upd_same (H := H1) (a := r) (o := (.lst ((rangeV 0 dss.length).map V.int)))
    generalize upd H1 r (.lst ((rangeV 0 dss.length).map V.int)) = H2 at *
    refine ne_is (is_ints (sq_of (s2 _ _ hp))) (is_ints (sq_of hr2)) ⟨_, rfl, ?_⟩
    rw [decide_eq_true rfl]
    refine iteF ?_
    have e02 := s1.trans s2
    have hq2 := e02 _ _ hq
    refine ⟨_, rfl, q, _, rfl, sq_of hq2, for_enum (K := K) (a := q) (xs := l.map V.int)
      (fun i σ H' => Same H2 H' ∧ ∃ y2 y3 y4, σ = [some (.ref a), some (.ref q), y2, y3, y4]) ⟨Same.refl _, _, _, _, rfl⟩ (fun i σ H' ⟨e, _⟩ => sq_of (e _ _ hq2)) ?_ ?_⟩
    · rintro i x0 σ H3 T hx0 ⟨e3, y2, y3, y4, rfl⟩ nT
      obtain ⟨x, hx, rfl⟩ := map_at hx0
      have hx2 := hin x (List.mem_of_getElem? hx)
      have s4 : Same H3 (upd H3 T (.tup [.int i, .int x])) := same_new nT
      have hT := upd_same (H := H3) (a := T) (o := .tup [.int i, .int x])
      generalize upd H3 T (.tup [.int i, .int x]) = H4 at *
      have e4 := e3.trans s4
      refine ⟨T, [.int i, .int x], rfl, st_of hT, rfl, .int i, [.int x], rfl, .int x, [], rfl, rfl, ?_⟩
      refine ⟨_, rfl, _, rfl, _, 1, rfl, rfl, _, rfl, q, _, rfl, sq_of (e4 _ _ hq2), ?_⟩
      intro d1 nd1
      have s5 := same_new (H := H4) (o := (.lst (cutV (l.map V.int) (some (((i : Nat) : Int) + 1)) none))) nd1
      have hd1 := upd_same (H := H4) (a := d1) (o := (.lst (cutV (l.map V.int) (some (((i : Nat) : Int) + 1)) none)))
      generalize upd H4 d1 (.lst (cutV (l.map V.int) (some (((i : Nat) : Int) + 1)) none)) = H5 at *
      have hd1' : H5 d1 = some (.lst ((l.drop (i + 1)).map V.int)) := by
        rw [hd1, cut_from _ (by omega), ← List.map_drop]
        congr 3
      have e5 := e4.trans s5
      have hD5 := hD.mono (e02.trans e5)
      refine ⟨d1, rfl, ⟨_, sq_of hd1'⟩, fun D nD => ?_⟩
      have hall : ∀ y ∈ l.drop (i + 1), placeB dss y x = false := fun y hy => by
        have hdr : l.drop i = x :: l.drop (i + 1) := by
          have hlt := (List.getElem?_eq_some_iff.mp hx)
          obtain ⟨h1, h2⟩ := hlt
          rw [← h2]
          exact List.drop_eq_getElem_cons h1
        have hp2 : (x :: l.drop (i + 1)).Pairwise (fun x y => placeB dss y x = false) := by
          rw [← hdr]
          exact hW.sublist (List.drop_sublist i l)
        exact (List.pairwise_cons.mp hp2).1 y hy
      refine lc_map (K := K) (fun _ => false) (fun v => v) nD (sq_of hd1') (by rw [List.length_map, List.length_drop]; omega) (fun v H6 R N hv e6 _ r1 => ?_) (fun H6 e6 hD6 => ?_)
      · obtain ⟨y, hy, rfl⟩ := List.mem_map.mp hv
        have hy2 := hin y (List.mem_of_mem_drop hy)
        have hb := hall y hy
        have hD6 := hD5.mono e6
        obtain ⟨py, dy, ay, hpy, gy⟩ := place_of hD6 hy2.1 (by omega)
        obtain ⟨px, dx, ax, hpx, gx⟩ := place_of hD6 hx2.1 (by omega)
        rw [place_val gy gx] at hb
        refine ⟨rfl, _, rfl, _, rfl, a, _, y, .ref py, rfl, rfl, sq_of hD6.1, ay, _, rfl, _, rfl, a, _, x, .ref px, rfl, rfl, sq_of hD6.1, ax, py, px, dy, dx, rfl, hpy, hpx, fun H7 e7 => ⟨_, rfl, ?_⟩⟩
        rw [hb]
        exact iteF (r1 rfl H7 e7)
      · rw [List.filter_eq_nil_iff.mpr (fun _ _ => by decide)] at hD6
        refine ⟨Nat.zero_le _, ?_⟩
        intro em nem
        have s7 := same_new (H := H6) (o := (.lst [])) nem
        have hem := upd_same (H := H6) (a := em) (o := (.lst []))
        generalize upd H6 em (.lst []) = H7 at *
        refine ne_is (is_ints (ns := []) (sq_of (s7 _ _ hD6))) (is_ints (ns := []) (sq_of hem)) ⟨_, rfl, ?_⟩
        rw [decide_eq_true rfl]
        exact iteF ⟨(e5.trans e6).trans s7, _, _, _, rfl⟩
    · rintro σ H3 ⟨e3, y2, y3, y4, rfl⟩
      exact k H3 (e02.trans e3)
end
end My

namespace My
open PySem PySem.Spec PyProof.Rows L2
open PySem.W (Datum Tup)
section
variable {P : Program} {w : World} {K : PySem.W.Frag} {mg : Str → Option Value} {base : Heap}
/-! ### just one of both is told -/
def spRight : Sp := fun vs H Q _ => ∃ (a : Addr) (ps : List Addr) (dss : List (List Int)) (o : Option (List Int)), vs = [.ref a] ∧ DiceAt H a ps dss ∧ 1 ≤ dss.length ∧ dss.length ≤ 8 ∧ (∀ ds ∈ dss, good ds) ∧ IsRing (placeB dss) (rangeV 0 dss.length) o ∧ ∀ H', Same H H' → Q (.int (sizeO o)) H'
theorem ok_law_right (T : Lay K mg) : FnOk P w K mg base CX0 11 T.a_law_right T.d_law_right ["_law_dice_here"] spRight := by
  refine T.f_law_right.ok sc_law_right (fun vs H Q E h => ?_) (fun cdv A outer s H vs Q E hr h => ?_)
  · obtain ⟨_, _, _, _, rfl, _⟩ := h
    rfl
  · obtain ⟨a, ps, dss, o, rfl, hD, l1, l8, hg, ho, k⟩ := h
    refine ⟨_, (pss_cons (ps_par (i := 1) (j := 2) (by rfl) sc_law_right.nd rfl rfl (by decide) rfl rfl (pa_cons (pe_call (ok_ring2 T) (hr.mono (by decide)) (by rfl) T.g_ring T.f_ring.kp T.b_ring .nil passL (pa_cons (pv 0) pa_nil)) (pa_cons (pe_call (ok_ranks2 T) (hr.mono (by decide)) (by rfl) T.g_ranks T.f_ranks.kp T.b_ranks .nil passL (pa_cons (pv 0) pa_nil)) pa_nil)) (by rfl))
    (pss_cons (ps_if (PW.pt (pw_and (pt_cmpR op_isN (pv 1) pe_non (nomark _)) (pw_and1 (pt_cmpR op_notN (pv 2) pe_non (nomark _))))) (pss_one (ps_ret (pe_ifExp (pt_val (pe_call (ok_law_are_ranks T) (hr.mono (by decide)) (by rfl) T.g_law_are_ranks T.f_law_are_ranks.kp T.b_law_are_ranks .nil pass0 (pa_cons (pv 0) (pa_cons (pv 2) pa_nil)))) pe_int pe_non))) pss_nil)
    (pss_cons (ps_if (PW.pt (pw_or (pt_cmpR op_isN (pv 1) pe_non (nomark _)) (pw_or1 (pt_cmpR op_notN (pv 2) pe_non (nomark _))))) (pss_one (ps_ret pe_non)) pss_nil)
    (pss_one (ps_ret (pe_ifExp (pt_val (pe_call (ok_law_is_ring T) (hr.mono (by decide)) (by rfl) T.g_law_is_ring T.f_law_is_ring.kp T.b_law_is_ring .nil pass0 (pa_cons (pv 0) (pa_cons (pv 1) pa_nil)))) (pe_callB call_len_seq (by rfl) T.n_len PySem.boot_len (pa_cons (pv 1) pa_nil)) pe_non)))))), ?_⟩
    have hone := ring_or_ranks (place_irr dss) (place_asy dss) ho
    obtain ⟨o2, ho2⟩ : ∃ o, ranksF (placeB dss) dss.length (rangeV 0 dss.length) = o := ⟨_, rfl⟩
    refine ⟨_, rfl, a, ps, dss, o, rfl, hD, l1, l8, hg, ho, fun H1 w1 e1 u1 _ => ?_⟩
    refine ⟨_, rfl, a, ps, dss, o2, rfl, hD.mono e1, l1, l8, hg, ho2, fun H2 w2 e2 u2 _ => ?_⟩
    refine ⟨_, _, rfl, ?_⟩
    have e12 := e1.trans e2
    have hD2 := hD.mono e12
    cases o with
    | none =>
      obtain ⟨l, hl⟩ := hone.mp rfl
      rw [ho2] at hl
      subst hl
      have ew : w1 = .non := u1
      subst ew
      obtain ⟨q, rfl, hq, _⟩ := u2
      refine ⟨_, rfl, rfl, _, rfl, ?_⟩
      rw [decide_eq_true rfl]
      refine iteT ⟨_, rfl, rfl, _, rfl, ?_⟩
      rw [decide_eq_false (fun z => nomatch z)]
      refine iteT ?_
      obtain ⟨p1, p2⟩ := ranks_are dss.length (rangeV_len 0 _) (range_nodup 0 _) ho2
      refine ⟨_, rfl, _, rfl, a, ps, dss, q, l, rfl, hD2, l8, hq, p1, p2, fun H3 e3 => ⟨_, rfl, ?_⟩⟩
      exact iteT (k H3 (e12.trans e3))
    | some c =>
      have h2 : o2 = none := by
        cases o2 with
        | none => rfl
        | some l => cases hone.mpr ⟨l, ho2⟩
      subst h2
      have ew : w2 = .non := u2
      subst ew
      obtain ⟨q, rfl, hq, _⟩ := u1
      have hq2 := e2 _ _ hq
      refine ⟨_, rfl, rfl, _, rfl, ?_⟩
      rw [decide_eq_false (fun z => nomatch z)]
      refine iteF ⟨_, rfl, rfl, _, rfl, ?_⟩
      rw [decide_eq_false (fun z => nomatch z)]
      refine iteF ⟨_, rfl, rfl, _, rfl, ?_⟩
      rw [decide_eq_true rfl]
      refine iteF ?_
      refine ⟨_, rfl, _, rfl, a, ps, dss, q, c, rfl, hD2, l8, hq2, ho.1, fun H3 e3 => ⟨_, rfl, iteT ?_⟩⟩
      refine ⟨_, rfl, q, _, rfl, .inl (sq_of (e3 _ _ hq2)), ?_⟩
      rw [List.length_map]
      exact k H3 (e12.trans e3)
end
end My

namespace My
open PySem PySem.Spec PyProof.Rows L2
open PySem.W (Datum Tup)
section
variable {P : Program} {w : World} {K : PySem.W.Frag} {mg : Str → Option Value} {base : Heap}
/-! ### the law -/
def plusV (l : Int) : V → V
  | .int z => .int (z + l)
  | _ => .non
def fromV (l : Int) : V → V
  | .int z => .int (l - z)
  | _ => .non
theorem good_lift {ds : List Int} {l : Int} (h : good90 ds) (l0 : 0 ≤ l) (l1 : l ≤ 9) : good (ds.map (· + l)) := by
  refine ⟨by rw [List.length_map]; exact h.1, by rw [List.length_map]; exact h.2.1, fun f hf => ?_⟩
  obtain ⟨z, hz, rfl⟩ := List.mem_map.mp hf
  have := h.2.2 z hz
  show 0 ≤ z + l ∧ z + l ≤ 99
  omega
theorem good_turn {ds : List Int} (h : good ds) : good (ds.map (99 - ·)) := by
  refine ⟨by rw [List.length_map]; exact h.1, by rw [List.length_map]; exact h.2.1, fun f hf => ?_⟩
  obtain ⟨z, hz, rfl⟩ := List.mem_map.mp hf
  have := h.2.2 z hz
  show 0 ≤ 99 - z ∧ 99 - z ≤ 99
  omega
def spLaw (K : PySem.W.Frag) : Sp := fun vs H Q _ => ∃ (a : Addr) (ns : List Int), vs = [.ref a] ∧ SqL K H a (ns.map V.int) ∧ ns.length ≤ 63 ∧ ∀ H', Q (.bl true) H'
theorem ok_law (T : Lay K mg) : FnOk P w K mg base CX0 12 T.a_law T.d_law ["_law_script"] (spLaw K) := by
  refine T.f_law.ok sc_law (fun vs H Q E h => ?_) (fun cdv A outer s H vs Q E hr h => ?_)
  · obtain ⟨a, ns, rfl, _⟩ := h
    rfl
  · obtain ⟨a, ns, rfl, hS, hlen, q⟩ := h
    refine ⟨_, (pss_cons (ps_set (i := 1) sc_law.nd rfl (Or.inl rfl) (pe_call (ok_law_dice T) (hr.mono (by decide)) (by rfl) T.g_law_dice T.f_law_dice.kp T.b_law_dice .nil pass0 (pa_cons (pv 0) pa_nil)))
    (pss_cons (ps_set (i := 2) sc_law.nd rfl (Or.inl rfl) (pe_call (ok_law_right T) (hr.mono (by decide)) (by rfl) T.g_law_right T.f_law_right.kp T.b_law_right .nil pass0 (pa_cons (pv 1) pa_nil)))
    (pss_cons (ps_if (pt_cmpR op_isN (pv 2) pe_non (nomark _)) (pss_one (ps_ret pe_bl)) pss_nil)
    (pss_cons (ps_set (i := 3) sc_law.nd rfl (Or.inr rfl) (pe_op op_mod (pe_call (ok_law_draw T) (hr.mono (by decide)) (by rfl) T.g_law_draw T.f_law_draw.kp T.b_law_draw .nil pass0 (pa_cons (pv 0) (pa_cons pe_int pa_nil))) pe_int))
    (pss_cons (ps_if (pt_cmpR op_ne (pe_call (ok_law_right T) (hr.mono (by decide)) (by rfl) T.g_law_right T.f_law_right.kp T.b_law_right .nil pass0 (pa_cons (pe_lc (own := [("_law_die_here", 7)]) (g := (gName 7)) rfl sc_law.nd (pi_list (pv 1)) (blkOk_by (N := nm_law) (sc := defScope st_law) (by decide +kernel)) (fun _ _ _ _ _ => (pg_name (i := 7) sc_law.nd rfl (Or.inl rfl))) (fun _ _ _ _ _ => pts_nil) (fun _ _ _ _ _ => (pe_lc (own := [("_law_face", 8)]) (g := (gName 8)) rfl sc_law.nd (pi_same (t' := iList K _) (pi_list (pv 7)) rfl) (blkOk_by (N := nm_law) (sc := { kind := ScopeKind.function, names := [(Str.ofString ".0", NameKind.local), (Str.ofString "_law_die_here", NameKind.local), (Str.ofString "_law_lift", NameKind.cell)], isGenerator := false, isCoroutine := false }) (by decide +kernel)) (fun _ _ _ _ _ => (pg_name (i := 8) sc_law.nd rfl (Or.inl rfl))) (fun _ _ _ _ _ => pts_nil) (fun _ _ _ _ _ => (pe_op op_add (pv 8) (pv 3)))))) pa_nil)) (pv 2) (nomark _)) (pss_one (ps_ret pe_bl)) pss_nil)
    (pss_cons (ps_if (pt_cmpR op_ne (pe_call (ok_law_right T) (hr.mono (by decide)) (by rfl) T.g_law_right T.f_law_right.kp T.b_law_right .nil pass0 (pa_cons (pe_lc (own := [("_law_die_here", 7)]) (g := (gName 7)) rfl sc_law.nd (pi_list (pv 1)) (blkOk_by (N := nm_law) (sc := defScope st_law) (by decide +kernel)) (fun _ _ _ _ _ => (pg_name (i := 7) sc_law.nd rfl (Or.inl rfl))) (fun _ _ _ _ _ => pts_nil) (fun _ _ _ _ _ => (pe_lc (own := [("_law_face", 8)]) (g := (gName 8)) rfl sc_law.nd (pi_same (t' := iList K _) (pi_list (pv 7)) rfl) (blkOk_by (N := nm_law) (sc := { kind := ScopeKind.function, names := [(Str.ofString ".0", NameKind.local), (Str.ofString "_law_die_here", NameKind.local)], isGenerator := false, isCoroutine := false }) (by decide +kernel)) (fun _ _ _ _ _ => (pg_name (i := 8) sc_law.nd rfl (Or.inl rfl))) (fun _ _ _ _ _ => pts_nil) (fun _ _ _ _ _ => (pe_op op_sub pe_int (pv 8)))))) pa_nil)) (pv 2) (nomark _)) (pss_one (ps_ret pe_bl)) pss_nil)
    (pss_cons (ps_if (PW.pt (pw_or (pt_cmpR op_eq (pv 2) pe_int (nomark _)) (pw_or1 (pt_cmpR op_eq (pv 2) (pe_callB call_len_seq (by rfl) T.n_len PySem.boot_len (pa_cons (pv 1) pa_nil)) (nomark _))))) (pss_one (ps_ret pe_bl)) pss_nil)
    (pss_cons (ps_set (i := 4) sc_law.nd rfl (Or.inr rfl) (pe_call (ok_ring2 T) (hr.mono (by decide)) (by rfl) T.g_ring T.f_ring.kp T.b_ring .nil passL (pa_cons (pv 1) pa_nil)))
    (pss_cons (ps_setLc (i := 6) (y := "_law_out") (hy := rfl) (hyl := rfl) (hsw := sw_true rfl rfl rfl (by decide +kernel)) (own := [("_law_place", 5)]) (g := (gName 5)) (hc := rfl) (hN := sc_law.nd) (hi := (pi_range1 (by rfl) T.n_range (pa_cons (pe_callB call_len_seq (by rfl) T.n_len PySem.boot_len (pa_cons (pv 1) pa_nil)) pa_nil))) (ok := (blkOk_by (N := nm_law) (sc := defScope st_law) (by decide +kernel))) (hg := (fun _ _ _ _ _ => (pg_name (i := 5) sc_law.nd rfl (Or.inl rfl)))) (ht := (fun _ _ _ _ _ => (pts_one (pt_cmpR (r := rIn K true) op_notIn_seq (pv 5) (pv 4) (by rfl))))) (he := (fun _ _ _ _ _ => (pv 5))))
    (pss_cons (ps_set (i := 5) sc_law.nd rfl (Or.inl rfl) (pe_ix ix_list (pv 6) (pe_op op_mod (pe_call (ok_law_draw T) (hr.mono (by decide)) (by rfl) T.g_law_draw T.f_law_draw.kp T.b_law_draw .nil pass0 (pa_cons (pv 0) (pa_cons pe_int pa_nil))) (pe_callB call_len_seq (by rfl) T.n_len PySem.boot_len (pa_cons (pv 6) pa_nil))) (fun _ _ => rfl)))
    (pss_one (ps_ret (pe_cmpR op_eq (pe_call (ok_law_right T) (hr.mono (by decide)) (by rfl) T.g_law_right T.f_law_right.kp T.b_law_right .nil pass0 (pa_cons (pe_op op_cat (pe_slice sl_list (pv 1) po_none (po_some (pv 5))) (pe_slice sl_list (pv 1) (po_some (pe_op op_add (pv 5) pe_int)) po_none)) pa_nil)) (pv 2) (nomark _)))))))))))))), ?_⟩
    have h63 : ns.length ≤ 1000 := by omega
    refine ⟨_, rfl, a, ns, rfl, hS, hlen, fun H1 p ps dss e1 hD l1 l8 hg90 => ?_⟩
    have hg : ∀ ds ∈ dss, good ds := fun ds h => good90_good (hg90 ds h)
    have hS1 := e1.seq hS
    have hl : ps.length = dss.length := paired_len hD.2
    obtain ⟨o, ho⟩ := ring_some (b := placeB dss) dss.length
    -- size
    refine ⟨_, rfl, p, ps, dss, o, rfl, hD, l1, l8, hg, ho, fun H2 e2 => ?_⟩
    refine ⟨_, rfl, rfl, _, rfl, ?_⟩
    rw [decide_eq_false (fun z => nomatch z)]
    refine iteF ?_
    refine ⟨_, rfl, a, ns, 90, rfl, e2.seq hS1, h63, by decide, by decide, fun H3 e3 => ?_⟩
    obtain ⟨n0, n1⟩ := draw_range ns 90
    generalize drawN ns 90 = num at *
    refine ⟨num, 10, rfl, rfl, md rfl, ?_⟩
    dsimp only
    have li : 0 ≤ num % 10 ∧ num % 10 ≤ 9 := by omega
    generalize num % 10 = lift at *
    have e13 := e2.trans e3
    have hD3 := hD.mono e13
    -- lifted
    refine ⟨_, rfl, p, rfl, ⟨_, sq_of hD3.1⟩, fun D nD => ?_⟩
    refine ll_lists (K := K) (fun i c => (dss.map fun d => d.map (· + lift))[i]? = some c) nD (sq_of hD3.1) (by rw [List.length_map]; omega) (fun i x H' R hi e r N => ?_) (fun H4 M => ?_)
    · obtain ⟨pi, hpi, rfl⟩ := map_at hi
      obtain ⟨ds, hdi, hp⟩ := paired_at (hD3.mono e).2 hpi
      have hds := hg ds (List.mem_of_getElem? hdi)
      refine ⟨rfl, iteT (B := N H') ⟨_, rfl, pi, rfl, ⟨_, sq_of hp⟩, fun D3 nD3 => ?_⟩⟩
      refine lc_all (K := K) (plusV lift) nD3 (sq_of hp) (by rw [List.length_map]; have := hds.2.1; omega) (fun x H9 R2 hx e9 r9 N2 => ?_) (fun H9 e9 hD9 => ?_)
      · obtain ⟨z, hz, rfl⟩ := List.mem_map.mp hx
        exact ⟨rfl, iteT (B := N2 H9) ⟨_, rfl, _, rfl, z, lift, rfl, rfl, r9 H9 (Same.refl H9)⟩⟩
      · exact r H9 D3 (ds.map (· + lift)) e9 nD3 (by rw [hD9, List.map_map, List.map_map]; rfl) (by rw [List.getElem?_map, hdi]; rfl)
    obtain ⟨qs, cs, hK, lq, _, _, _, gd⟩ := M.made
    have hcs : cs = dss.map fun d => d.map (· + lift) := ext_of (by
      have := paired_len hK.2
      rw [List.length_map] at lq ⊢
      omega) gd
    subst hcs
    have e14 := e13.trans M.same
    clear M gd
    refine ⟨D, qs, _, o, rfl, hK, by rw [List.length_map]; exact l1, by rw [List.length_map]; exact l8, fun ds hds => ?_, by rw [place_lift, List.length_map]; exact ho, fun H5 e5 => ⟨_, rfl, rfl, _, rfl, neF rfl ?_⟩⟩
    · obtain ⟨d, hd, rfl⟩ := List.mem_map.mp hds
      exact good_lift (hg90 d hd) li.1 li.2
    have e15 := e14.trans e5
    have hD5 := hD.mono e15
    clear hK nD
    -- turned about
    refine ⟨_, rfl, p, rfl, ⟨_, sq_of hD5.1⟩, fun D nD => ?_⟩
    refine ll_lists (K := K) (fun i c => (dss.map fun d => d.map (99 - ·))[i]? = some c) nD (sq_of hD5.1) (by rw [List.length_map]; omega) (fun i x H' R hi e r N => ?_) (fun H6 M => ?_)
    · obtain ⟨pi, hpi, rfl⟩ := map_at hi
      obtain ⟨ds, hdi, hp⟩ := paired_at (hD5.mono e).2 hpi
      have hds := hg ds (List.mem_of_getElem? hdi)
      refine ⟨rfl, iteT (B := N H') ⟨_, rfl, pi, rfl, ⟨_, sq_of hp⟩, fun D3 nD3 => ?_⟩⟩
      refine lc_all (K := K) (fromV 99) nD3 (sq_of hp) (by rw [List.length_map]; have := hds.2.1; omega) (fun x H9 R2 hx e9 r9 N2 => ?_) (fun H9 e9 hD9 => ?_)
      · obtain ⟨z, hz, rfl⟩ := List.mem_map.mp hx
        exact ⟨rfl, iteT (B := N2 H9) ⟨_, rfl, 99, z, rfl, rfl, r9 H9 (Same.refl H9)⟩⟩
      · exact r H9 D3 (ds.map (99 - ·)) e9 nD3 (by rw [hD9, List.map_map, List.map_map]; rfl) (by rw [List.getElem?_map, hdi]; rfl)
    obtain ⟨qs2, cs, hK, lq, _, _, _, gd⟩ := M.made
    have hcs : cs = dss.map fun d => d.map (99 - ·) := ext_of (by
      have := paired_len hK.2
      rw [List.length_map] at lq ⊢
      omega) gd
    subst hcs
    have e16 := e15.trans M.same
    clear M gd
    obtain ⟨o', ho'⟩ := ring_some (b := placeB (dss.map fun d => d.map (99 - ·))) (dss.map fun d => d.map (99 - ·)).length
    have ho2 := ho'
    rw [List.length_map] at ho2
    have hsz := size_turn (place_irr dss) (place_asy dss) (fun x y => place_turn 99 dss x y) ho ho2
    refine ⟨D, qs2, _, o', rfl, hK, by rw [List.length_map]; exact l1, by rw [List.length_map]; exact l8, fun ds hds => ?_, ho', fun H7 e7 => ⟨_, rfl, rfl, _, rfl, neF (by rw [hsz]) ?_⟩⟩
    · obtain ⟨d, hd, rfl⟩ := List.mem_map.mp hds
      exact good_turn (hg d hd)
    have e17 := e16.trans e7
    have hD7 := hD.mono e17
    clear hK nD ho' ho2 hsz
    -- a die less
    refine ⟨_, rfl, rfl, _, rfl, ?_⟩
    cases o with
    | none =>
      rw [decide_eq_true (show V.int ((sizeO none : Nat) : Int) = V.int 0 from rfl)]
      exact iteT (q H7)
    | some c =>
      have h3 := ho.1.three
      have hcn : c.length ≤ dss.length := by
        have := nodup_len ho.1.cyc.nd ho.1.cyc.inn
        rw [rangeV_len] at this
        exact this
      rw [decide_eq_false (fun z => by
        have z2 : ((c.length : Nat) : Int) = 0 := V.int.inj z
        omega)]
      refine iteF ⟨_, rfl, _, rfl, p, _, rfl, .inl (sq_of hD7.1), rfl, _, rfl, iteD (fun _ => q H7) (fun z => ?_)⟩
      have hcl : c.length < dss.length := by
        have : c.length ≠ dss.length := fun e => z (by rw [List.length_map, hl]; exact congrArg (fun n : Nat => V.int (n : Int)) e)
        omega
      refine ⟨_, rfl, p, ps, dss, some c, rfl, hD7, l1, l8, hg, ho, fun H8 w e8 u _ => ?_⟩
      obtain ⟨r, rfl, hr8, _⟩ := u
      have e18 := e17.trans e8
      have hD8 := hD.mono e18
      -- out
      refine ⟨_, rfl, p, _, rfl, .inl (sq_of hD8.1), _, rfl, by omega, by rw [List.length_map]; omega, fun D nD => ?_⟩
      rw [List.length_map, hl, Int.toNat_natCast]
      refine lr_map (fun z => !c.contains z) V.int nD (by omega) (fun z H' R N z0 z1 e r0 r1 => ?_) (fun H9 e9 hD9 => ?_)
      · refine ⟨rfl, _, rfl, _, rfl, r, _, rfl, .inl (sq_of (e _ _ hr8)), rfl, ints_flat c, _, rfl, ?_⟩
        show if (!inV (.int z) (c.map V.int)) = true then _ else _
        rw [ring_in]
        cases hcz : c.contains z with
        | true => exact iteF (r1 (by rw [hcz]; rfl) H' (Same.refl H'))
        | false => exact iteT ⟨_, rfl, r0 (by rw [hcz]; rfl) H' (Same.refl H')⟩
      have e19 := e18.trans e9
      have hD9' := hD.mono e19
      have hout : ∀ x ∈ (rangeV 0 dss.length).filter (fun z => !c.contains z), (0 ≤ x ∧ x < (dss.length : Int)) ∧ x ∉ c := fun x hx => by
        obtain ⟨h1, h2⟩ := List.mem_filter.mp hx
        have := rangeV_mem.mp h1
        refine ⟨by omega, fun z => ?_⟩
        rw [List.contains_eq_mem, decide_eq_true z] at h2
        cases h2
      have hne : (rangeV 0 dss.length).filter (fun z => !c.contains z) ≠ [] := fun z => by
        have hs : ∀ x ∈ rangeV 0 dss.length, x ∈ c := fun x hx => by
          have := List.filter_eq_nil_iff.mp z x hx
          rw [List.contains_eq_mem] at this
          simpa using this
        have := nodup_len (range_nodup 0 dss.length) hs
        rw [rangeV_len] at this
        omega
      have hole : ((rangeV 0 dss.length).filter (fun z => !c.contains z)).length ≤ 8 := Nat.le_trans (List.length_filter_le _ _) (by rw [rangeV_len]; exact l8)
      generalize (rangeV 0 dss.length).filter (fun z => !c.contains z) = out at *
      have hop : 0 < out.length := List.length_pos_iff.mpr hne
      refine ⟨_, rfl, _, rfl, a, ns, 91, rfl, e19.seq hS1, h63, by decide, by decide, fun H10 e10 => ?_⟩
      have hD10 := e10 _ _ hD9
      refine ⟨_, rfl, D, _, rfl, .inl (sq_of hD10), _, _, rfl, rfl, by rw [List.length_map]; omega, ?_⟩
      rw [List.length_map]
      dsimp only
      have h0 := Int.emod_nonneg (drawN ns 91) (show ((out.length : Nat) : Int) ≠ 0 by omega)
      have h1 := Int.emod_lt_of_pos (drawN ns 91) (show (0 : Int) < ((out.length : Nat) : Int) by omega)
      generalize drawN ns 91 % ((out.length : Nat) : Int) = t at *
      have ht : out[t.toNat]? = some out[t.toNat] := List.getElem?_eq_getElem (by omega)
      have hx2 := hout _ (List.getElem_mem (by omega : t.toNat < out.length))
      generalize out[t.toNat] = xx at *
      obtain ⟨x, rfl⟩ : ∃ x : Nat, xx = (x : Int) := ⟨xx.toNat, by omega⟩
      refine ⟨D, _, t, .int (x : Int), rfl, rfl, sq_of hD10, at_of (j := t.toNat) (by omega) (by rw [List.getElem?_map, ht]; rfl), ?_⟩
      have e110 := e19.trans e10
      have hDa := hD.mono e110
      -- the dice without it
      refine ⟨_, rfl, _, rfl, x, rfl, p, _, rfl, sq_of hDa.1, ?_⟩
      intro c1 nc1
      have s1 := same_new (H := H10) (o := (.lst (cutV (ps.map V.ref) none (some (x : Int))))) nc1
      have hc1 := upd_same (H := H10) (a := c1) (o := (.lst (cutV (ps.map V.ref) none (some (x : Int)))))
      generalize upd H10 c1 (.lst (cutV (ps.map V.ref) none (some (x : Int)))) = H11 at *
      refine ⟨_, rfl, _, rfl, _, 1, rfl, rfl, _, rfl, p, _, rfl, sq_of (s1 _ _ hDa.1), ?_⟩
      intro c2 nc2
      have s2 := same_new (H := H11) (o := (.lst (cutV (ps.map V.ref) (some ((x : Int) + 1)) none))) nc2
      have hc2 := upd_same (H := H11) (a := c2) (o := (.lst (cutV (ps.map V.ref) (some ((x : Int) + 1)) none)))
      generalize upd H11 c2 (.lst (cutV (ps.map V.ref) (some ((x : Int) + 1)) none)) = H12 at *
      have lc1 := cutV_length (ps.map V.ref) none (some (x : Int))
      have lc2 := cutV_length (ps.map V.ref) (some ((x : Int) + 1)) none
      rw [List.length_map] at lc1 lc2
      refine ⟨c1, c2, _, _, rfl, rfl, s2 _ _ hc1, hc2, sz_ok (by omega), ?_⟩
      intro c3 nc3
      have s3 := same_new (H := H12) (o := (.lst (cutV (ps.map V.ref) none (some (x : Int)) ++ cutV (ps.map V.ref) (some ((x : Int) + 1)) none))) nc3
      have hc3 := upd_same (H := H12) (a := c3) (o := (.lst (cutV (ps.map V.ref) none (some (x : Int)) ++ cutV (ps.map V.ref) (some ((x : Int) + 1)) none)))
      generalize upd H12 c3 (.lst (cutV (ps.map V.ref) none (some (x : Int)) ++ cutV (ps.map V.ref) (some ((x : Int) + 1)) none)) = H13 at *
      have e1013 := (s1.trans s2).trans s3
      have hDl : DiceAt H13 c3 (ps.take x ++ ps.drop (x + 1)) (dss.take x ++ dss.drop (x + 1)) := by
        refine ⟨?_, paired_append (paired_take _ (hDa.mono e1013).2) (paired_drop _ (hDa.mono e1013).2)⟩
        rw [hc3, cut_to _ (by omega), cut_from _ (by omega), List.map_append, List.map_take, List.map_drop]
        have : ((x : Int) + 1).toNat = x + 1 := by omega
        rw [this, Int.toNat_natCast]
      have hxl : x < dss.length := by omega
      have hll : (dss.take x ++ dss.drop (x + 1)).length = dss.length - 1 := by
        rw [List.length_append, List.length_take, List.length_drop]
        omega
      obtain ⟨o2, ho2⟩ := ring_some (b := placeB (dss.take x ++ dss.drop (x + 1))) (dss.length - 1)
      have hsz := ring_less hxl ho hx2.2 ho2
      refine ⟨c3, _, _, o2, rfl, hDl, by omega, by omega, fun ds hds => ?_, by rw [hll]; exact ho2, fun H14 e14 => ⟨_, rfl, rfl, ?_⟩⟩
      · rcases List.mem_append.mp hds with z | z
        · exact hg ds (List.mem_of_mem_take z)
        · exact hg ds (List.mem_of_mem_drop z)
      · rw [decide_eq_true (show V.int ((sizeO o2 : Nat) : Int) = V.int ((sizeO (some c) : Nat) : Int) by rw [hsz]; rfl)]
        exact q H14
end
end My

namespace My
open PySem PySem.Spec PyProof.Rows L2
def lay_mk {K : PySem.W.Frag} {h : Heap} {mg : Str → Option Value} (X : K.In h) (G : h.Ns mainGlobals mg)
    {t_MOST_FACES : Tok}
    {t_GREATEST_FACE : Tok}
    {t_MOST_PLACES : Tok}
    {t_LEAST_RING : Tok}
    {a_DiceError : Addr}
    {a_BadDie : Addr}
    {a_BadDice : Addr}
    {o_is_number : Option Addr} {w_is_number : Option Addr} {q_is_number : Array (Option Value)} {i_is_number j_is_number u_is_number v_is_number r_is_number y_is_number : Value} {a_is_number : Addr}
    {o_is_face : Option Addr} {w_is_face : Option Addr} {q_is_face : Array (Option Value)} {i_is_face j_is_face u_is_face v_is_face r_is_face y_is_face : Value} {a_is_face : Addr}
    {o_is_die : Option Addr} {w_is_die : Option Addr} {q_is_die : Array (Option Value)} {i_is_die j_is_die u_is_die v_is_die r_is_die y_is_die : Value} {a_is_die : Addr}
    {o_need_die : Option Addr} {w_need_die : Option Addr} {q_need_die : Array (Option Value)} {i_need_die j_need_die u_need_die v_need_die r_need_die y_need_die : Value} {a_need_die : Addr}
    {o_need_dice : Option Addr} {w_need_dice : Option Addr} {q_need_dice : Array (Option Value)} {i_need_dice j_need_dice u_need_dice v_need_dice r_need_dice y_need_dice : Value} {a_need_dice : Addr}
    {o_beats : Option Addr} {w_beats : Option Addr} {q_beats : Array (Option Value)} {i_beats j_beats u_beats v_beats r_beats y_beats : Value} {a_beats : Addr}
    {o_throws_above : Option Addr} {w_throws_above : Option Addr} {q_throws_above : Array (Option Value)} {i_throws_above j_throws_above u_throws_above v_throws_above r_throws_above y_throws_above : Value} {a_throws_above : Addr}
    {o_ring : Option Addr} {w_ring : Option Addr} {q_ring : Array (Option Value)} {i_ring j_ring u_ring v_ring r_ring y_ring : Value} {a_ring : Addr}
    {o_ranks : Option Addr} {w_ranks : Option Addr} {q_ranks : Array (Option Value)} {i_ranks j_ranks u_ranks v_ranks r_ranks y_ranks : Value} {a_ranks : Addr}
    {o_beaten_places : Option Addr} {w_beaten_places : Option Addr} {q_beaten_places : Array (Option Value)} {i_beaten_places j_beaten_places u_beaten_places v_beaten_places r_beaten_places y_beaten_places : Value} {a_beaten_places : Addr}
    {o_ring_from : Option Addr} {w_ring_from : Option Addr} {q_ring_from : Array (Option Value)} {i_ring_from j_ring_from u_ring_from v_ring_from r_ring_from y_ring_from : Value} {a_ring_from : Addr}
    {o_law_draw : Option Addr} {w_law_draw : Option Addr} {q_law_draw : Array (Option Value)} {i_law_draw j_law_draw u_law_draw v_law_draw r_law_draw y_law_draw : Value} {a_law_draw : Addr}
    {o_law_die : Option Addr} {w_law_die : Option Addr} {q_law_die : Array (Option Value)} {i_law_die j_law_die u_law_die v_law_die r_law_die y_law_die : Value} {a_law_die : Addr}
    {o_law_beats : Option Addr} {w_law_beats : Option Addr} {q_law_beats : Array (Option Value)} {i_law_beats j_law_beats u_law_beats v_law_beats r_law_beats y_law_beats : Value} {a_law_beats : Addr}
    {o_law_dice : Option Addr} {w_law_dice : Option Addr} {q_law_dice : Array (Option Value)} {i_law_dice j_law_dice u_law_dice v_law_dice r_law_dice y_law_dice : Value} {a_law_dice : Addr}
    {o_law_is_ring : Option Addr} {w_law_is_ring : Option Addr} {q_law_is_ring : Array (Option Value)} {i_law_is_ring j_law_is_ring u_law_is_ring v_law_is_ring r_law_is_ring y_law_is_ring : Value} {a_law_is_ring : Addr}
    {o_law_are_ranks : Option Addr} {w_law_are_ranks : Option Addr} {q_law_are_ranks : Array (Option Value)} {i_law_are_ranks j_law_are_ranks u_law_are_ranks v_law_are_ranks r_law_are_ranks y_law_are_ranks : Value} {a_law_are_ranks : Addr}
    {o_law_right : Option Addr} {w_law_right : Option Addr} {q_law_right : Array (Option Value)} {i_law_right j_law_right u_law_right v_law_right r_law_right y_law_right : Value} {a_law_right : Addr}
    {o_law : Option Addr} {w_law : Option Addr} {q_law : Array (Option Value)} {i_law j_law u_law v_law r_law y_law : Value} {a_law : Addr}
    (n_isinstance : PySem.W.nsIn K mainGlobals "isinstance" = some none)
    (n_int : PySem.W.nsIn K mainGlobals "int" = some none)
    (n_bool : PySem.W.nsIn K mainGlobals "bool" = some none)
    (n_list : PySem.W.nsIn K mainGlobals "list" = some none)
    (n_len : PySem.W.nsIn K mainGlobals "len" = some none)
    (n_all : PySem.W.nsIn K mainGlobals "all" = some none)
    (n_range : PySem.W.nsIn K mainGlobals "range" = some none)
    (n_sum : PySem.W.nsIn K mainGlobals "sum" = some none)
    (n_set : PySem.W.nsIn K mainGlobals "set" = some none)
    (n_min : PySem.W.nsIn K mainGlobals "min" = some none)
    (n_zip : PySem.W.nsIn K mainGlobals "zip" = some none)
    (n_sorted : PySem.W.nsIn K mainGlobals "sorted" = some none)
    (n_enumerate : PySem.W.nsIn K mainGlobals "enumerate" = some none)
    (n_any : PySem.W.nsIn K mainGlobals "any" = some none)
    (n_ValueError : PySem.W.nsIn K mainGlobals "ValueError" = some none)
    (c_MOST_FACES : PySem.W.nsIn K mainGlobals "MOST_FACES" = some (some (.int 8 t_MOST_FACES)))
    (c_GREATEST_FACE : PySem.W.nsIn K mainGlobals "GREATEST_FACE" = some (some (.int 99 t_GREATEST_FACE)))
    (c_MOST_PLACES : PySem.W.nsIn K mainGlobals "MOST_PLACES" = some (some (.int 8 t_MOST_PLACES)))
    (c_LEAST_RING : PySem.W.nsIn K mainGlobals "LEAST_RING" = some (some (.int 3 t_LEAST_RING)))
    (hn : PySem.W.specialIn K (.builtin "object.__class__") "__get__" = some (some (.builtin "getset_descriptor.__get__")))
    (ht : PySem.W.takesIn K (.builtin "object.__class__") = some true)
    (g_DiceError : PySem.W.nsIn K mainGlobals "DiceError" = some (some (.ref a_DiceError)))
    (x_DiceError : PySem.W.excIn K a_DiceError [.type "ValueError", .type "Exception", .type "BaseException", .type "object"] "ValueError.__new__" = true)
    (k_DiceError : PySem.W.keepIn K (.ref a_DiceError) = true)
    (b_DiceError : PySem.W.subIn K (.ref a_DiceError) (.type "BaseException") = some true)
    (t_DiceError : PySem.W.typeIn K (.ref a_DiceError) = some (.type "type"))
    (hg_DiceError : PySem.W.findIn K (.ref a_DiceError) "__getattribute__" = some (some (.builtin "BaseException.__getattribute__")))
    (hk_DiceError : PySem.W.findIn K (.ref a_DiceError) "__getattr__" = some none)
    (hd_DiceError : PySem.W.hasDictIn K a_DiceError = true)
    (ha_DiceError : PySem.W.findIn K (.ref a_DiceError) "__class__" = some (some (.builtin "object.__class__")))
    (hm_DiceError : PySem.W.mroIn K a_DiceError (.type "object") = some true)
    (g_BadDie : PySem.W.nsIn K mainGlobals "BadDie" = some (some (.ref a_BadDie)))
    (x_BadDie : PySem.W.excIn K a_BadDie [.type "ValueError", .type "Exception", .type "BaseException", .type "object"] "ValueError.__new__" = true)
    (k_BadDie : PySem.W.keepIn K (.ref a_BadDie) = true)
    (b_BadDie : PySem.W.subIn K (.ref a_BadDie) (.type "BaseException") = some true)
    (t_BadDie : PySem.W.typeIn K (.ref a_BadDie) = some (.type "type"))
    (hg_BadDie : PySem.W.findIn K (.ref a_BadDie) "__getattribute__" = some (some (.builtin "BaseException.__getattribute__")))
    (hk_BadDie : PySem.W.findIn K (.ref a_BadDie) "__getattr__" = some none)
    (hd_BadDie : PySem.W.hasDictIn K a_BadDie = true)
    (ha_BadDie : PySem.W.findIn K (.ref a_BadDie) "__class__" = some (some (.builtin "object.__class__")))
    (hm_BadDie : PySem.W.mroIn K a_BadDie (.type "object") = some true)
    (g_BadDice : PySem.W.nsIn K mainGlobals "BadDice" = some (some (.ref a_BadDice)))
    (x_BadDice : PySem.W.excIn K a_BadDice [.type "ValueError", .type "Exception", .type "BaseException", .type "object"] "ValueError.__new__" = true)
    (k_BadDice : PySem.W.keepIn K (.ref a_BadDice) = true)
    (b_BadDice : PySem.W.subIn K (.ref a_BadDice) (.type "BaseException") = some true)
    (t_BadDice : PySem.W.typeIn K (.ref a_BadDice) = some (.type "type"))
    (hg_BadDice : PySem.W.findIn K (.ref a_BadDice) "__getattribute__" = some (some (.builtin "BaseException.__getattribute__")))
    (hk_BadDice : PySem.W.findIn K (.ref a_BadDice) "__getattr__" = some none)
    (hd_BadDice : PySem.W.hasDictIn K a_BadDice = true)
    (ha_BadDice : PySem.W.findIn K (.ref a_BadDice) "__class__" = some (some (.builtin "object.__class__")))
    (hm_BadDice : PySem.W.mroIn K a_BadDice (.type "object") = some true)
    (s_BadDie_DiceError : PySem.W.kitOne K (.ref a_BadDie) (.ref a_DiceError) = some true)
    (e_BadDie_DiceError : PySem.W.subIn K (.ref a_BadDie) (.ref a_DiceError) = some true)
    (s_BadDie_BadDie : PySem.W.kitOne K (.ref a_BadDie) (.ref a_BadDie) = some true)
    (e_BadDie_BadDie : PySem.W.subIn K (.ref a_BadDie) (.ref a_BadDie) = some true)
    (s_BadDie_BadDice : PySem.W.kitOne K (.ref a_BadDie) (.ref a_BadDice) = some false)
    (e_BadDie_BadDice : PySem.W.subIn K (.ref a_BadDie) (.ref a_BadDice) = some false)
    (s_BadDice_DiceError : PySem.W.kitOne K (.ref a_BadDice) (.ref a_DiceError) = some true)
    (e_BadDice_DiceError : PySem.W.subIn K (.ref a_BadDice) (.ref a_DiceError) = some true)
    (s_BadDice_BadDie : PySem.W.kitOne K (.ref a_BadDice) (.ref a_BadDie) = some false)
    (e_BadDice_BadDie : PySem.W.subIn K (.ref a_BadDice) (.ref a_BadDie) = some false)
    (s_BadDice_BadDice : PySem.W.kitOne K (.ref a_BadDice) (.ref a_BadDice) = some true)
    (e_BadDice_BadDice : PySem.W.subIn K (.ref a_BadDice) (.ref a_BadDice) = some true)
    (z_DiceError : PySem.W.kitOne K (.type "NoneType") (.ref a_DiceError) = some false)
    (v_DiceError : PySem.W.kitOne K (.ref a_DiceError) (.type "ValueError") = some true)
    (z_BadDie : PySem.W.kitOne K (.type "NoneType") (.ref a_BadDie) = some false)
    (v_BadDie : PySem.W.kitOne K (.ref a_BadDie) (.type "ValueError") = some true)
    (z_BadDice : PySem.W.kitOne K (.type "NoneType") (.ref a_BadDice) = some false)
    (v_BadDice : PySem.W.kitOne K (.ref a_BadDice) (.type "ValueError") = some true)
    (g_is_number : PySem.W.nsIn K mainGlobals "is_number" = some (some (.ref a_is_number)))
    (l_is_number : K.lookup a_is_number = some ⟨i_is_number, o_is_number, .func (PySem.W.fnOf "is_number" "is_number" (defArgs st_is_number) (defBody st_is_number) (defScope st_is_number) .none j_is_number u_is_number v_is_number w_is_number r_is_number y_is_number), q_is_number⟩)
    (p_is_number : PySem.W.codeIn K r_is_number "is_number" = true)
    (k_is_number : PySem.W.keepIn K (.ref a_is_number) = true)
    (g_is_face : PySem.W.nsIn K mainGlobals "is_face" = some (some (.ref a_is_face)))
    (l_is_face : K.lookup a_is_face = some ⟨i_is_face, o_is_face, .func (PySem.W.fnOf "is_face" "is_face" (defArgs st_is_face) (defBody st_is_face) (defScope st_is_face) .none j_is_face u_is_face v_is_face w_is_face r_is_face y_is_face), q_is_face⟩)
    (p_is_face : PySem.W.codeIn K r_is_face "is_face" = true)
    (k_is_face : PySem.W.keepIn K (.ref a_is_face) = true)
    (g_is_die : PySem.W.nsIn K mainGlobals "is_die" = some (some (.ref a_is_die)))
    (l_is_die : K.lookup a_is_die = some ⟨i_is_die, o_is_die, .func (PySem.W.fnOf "is_die" "is_die" (defArgs st_is_die) (defBody st_is_die) (defScope st_is_die) .none j_is_die u_is_die v_is_die w_is_die r_is_die y_is_die), q_is_die⟩)
    (p_is_die : PySem.W.codeIn K r_is_die "is_die" = true)
    (k_is_die : PySem.W.keepIn K (.ref a_is_die) = true)
    (g_need_die : PySem.W.nsIn K mainGlobals "need_die" = some (some (.ref a_need_die)))
    (l_need_die : K.lookup a_need_die = some ⟨i_need_die, o_need_die, .func (PySem.W.fnOf "need_die" "need_die" (defArgs st_need_die) (defBody st_need_die) (defScope st_need_die) .none j_need_die u_need_die v_need_die w_need_die r_need_die y_need_die), q_need_die⟩)
    (p_need_die : PySem.W.codeIn K r_need_die "need_die" = true)
    (k_need_die : PySem.W.keepIn K (.ref a_need_die) = true)
    (g_need_dice : PySem.W.nsIn K mainGlobals "need_dice" = some (some (.ref a_need_dice)))
    (l_need_dice : K.lookup a_need_dice = some ⟨i_need_dice, o_need_dice, .func (PySem.W.fnOf "need_dice" "need_dice" (defArgs st_need_dice) (defBody st_need_dice) (defScope st_need_dice) .none j_need_dice u_need_dice v_need_dice w_need_dice r_need_dice y_need_dice), q_need_dice⟩)
    (p_need_dice : PySem.W.codeIn K r_need_dice "need_dice" = true)
    (k_need_dice : PySem.W.keepIn K (.ref a_need_dice) = true)
    (g_beats : PySem.W.nsIn K mainGlobals "beats" = some (some (.ref a_beats)))
    (l_beats : K.lookup a_beats = some ⟨i_beats, o_beats, .func (PySem.W.fnOf "beats" "beats" (defArgs st_beats) (defBody st_beats) (defScope st_beats) .none j_beats u_beats v_beats w_beats r_beats y_beats), q_beats⟩)
    (p_beats : PySem.W.codeIn K r_beats "beats" = true)
    (k_beats : PySem.W.keepIn K (.ref a_beats) = true)
    (g_throws_above : PySem.W.nsIn K mainGlobals "throws_above" = some (some (.ref a_throws_above)))
    (l_throws_above : K.lookup a_throws_above = some ⟨i_throws_above, o_throws_above, .func (PySem.W.fnOf "throws_above" "throws_above" (defArgs st_throws_above) (defBody st_throws_above) (defScope st_throws_above) .none j_throws_above u_throws_above v_throws_above w_throws_above r_throws_above y_throws_above), q_throws_above⟩)
    (p_throws_above : PySem.W.codeIn K r_throws_above "throws_above" = true)
    (k_throws_above : PySem.W.keepIn K (.ref a_throws_above) = true)
    (g_ring : PySem.W.nsIn K mainGlobals "ring" = some (some (.ref a_ring)))
    (l_ring : K.lookup a_ring = some ⟨i_ring, o_ring, .func (PySem.W.fnOf "ring" "ring" (defArgs st_ring) (defBody st_ring) (defScope st_ring) .none j_ring u_ring v_ring w_ring r_ring y_ring), q_ring⟩)
    (p_ring : PySem.W.codeIn K r_ring "ring" = true)
    (k_ring : PySem.W.keepIn K (.ref a_ring) = true)
    (g_ranks : PySem.W.nsIn K mainGlobals "ranks" = some (some (.ref a_ranks)))
    (l_ranks : K.lookup a_ranks = some ⟨i_ranks, o_ranks, .func (PySem.W.fnOf "ranks" "ranks" (defArgs st_ranks) (defBody st_ranks) (defScope st_ranks) .none j_ranks u_ranks v_ranks w_ranks r_ranks y_ranks), q_ranks⟩)
    (p_ranks : PySem.W.codeIn K r_ranks "ranks" = true)
    (k_ranks : PySem.W.keepIn K (.ref a_ranks) = true)
    (g_beaten_places : PySem.W.nsIn K mainGlobals "beaten_places" = some (some (.ref a_beaten_places)))
    (l_beaten_places : K.lookup a_beaten_places = some ⟨i_beaten_places, o_beaten_places, .func (PySem.W.fnOf "beaten_places" "beaten_places" (defArgs st_beaten_places) (defBody st_beaten_places) (defScope st_beaten_places) .none j_beaten_places u_beaten_places v_beaten_places w_beaten_places r_beaten_places y_beaten_places), q_beaten_places⟩)
    (p_beaten_places : PySem.W.codeIn K r_beaten_places "beaten_places" = true)
    (k_beaten_places : PySem.W.keepIn K (.ref a_beaten_places) = true)
    (g_ring_from : PySem.W.nsIn K mainGlobals "ring_from" = some (some (.ref a_ring_from)))
    (l_ring_from : K.lookup a_ring_from = some ⟨i_ring_from, o_ring_from, .func (PySem.W.fnOf "ring_from" "ring_from" (defArgs st_ring_from) (defBody st_ring_from) (defScope st_ring_from) .none j_ring_from u_ring_from v_ring_from w_ring_from r_ring_from y_ring_from), q_ring_from⟩)
    (p_ring_from : PySem.W.codeIn K r_ring_from "ring_from" = true)
    (k_ring_from : PySem.W.keepIn K (.ref a_ring_from) = true)
    (g_law_draw : PySem.W.nsIn K mainGlobals "_law_draw" = some (some (.ref a_law_draw)))
    (l_law_draw : K.lookup a_law_draw = some ⟨i_law_draw, o_law_draw, .func (PySem.W.fnOf "_law_draw" "_law_draw" (defArgs st_law_draw) (defBody st_law_draw) (defScope st_law_draw) .none j_law_draw u_law_draw v_law_draw w_law_draw r_law_draw y_law_draw), q_law_draw⟩)
    (p_law_draw : PySem.W.codeIn K r_law_draw "_law_draw" = true)
    (k_law_draw : PySem.W.keepIn K (.ref a_law_draw) = true)
    (g_law_die : PySem.W.nsIn K mainGlobals "_law_die" = some (some (.ref a_law_die)))
    (l_law_die : K.lookup a_law_die = some ⟨i_law_die, o_law_die, .func (PySem.W.fnOf "_law_die" "_law_die" (defArgs st_law_die) (defBody st_law_die) (defScope st_law_die) .none j_law_die u_law_die v_law_die w_law_die r_law_die y_law_die), q_law_die⟩)
    (p_law_die : PySem.W.codeIn K r_law_die "_law_die" = true)
    (k_law_die : PySem.W.keepIn K (.ref a_law_die) = true)
    (g_law_beats : PySem.W.nsIn K mainGlobals "_law_beats" = some (some (.ref a_law_beats)))
    (l_law_beats : K.lookup a_law_beats = some ⟨i_law_beats, o_law_beats, .func (PySem.W.fnOf "_law_beats" "_law_beats" (defArgs st_law_beats) (defBody st_law_beats) (defScope st_law_beats) .none j_law_beats u_law_beats v_law_beats w_law_beats r_law_beats y_law_beats), q_law_beats⟩)
    (p_law_beats : PySem.W.codeIn K r_law_beats "_law_beats" = true)
    (k_law_beats : PySem.W.keepIn K (.ref a_law_beats) = true)
    (g_law_dice : PySem.W.nsIn K mainGlobals "_law_dice" = some (some (.ref a_law_dice)))
    (l_law_dice : K.lookup a_law_dice = some ⟨i_law_dice, o_law_dice, .func (PySem.W.fnOf "_law_dice" "_law_dice" (defArgs st_law_dice) (defBody st_law_dice) (defScope st_law_dice) .none j_law_dice u_law_dice v_law_dice w_law_dice r_law_dice y_law_dice), q_law_dice⟩)
    (p_law_dice : PySem.W.codeIn K r_law_dice "_law_dice" = true)
    (k_law_dice : PySem.W.keepIn K (.ref a_law_dice) = true)
    (g_law_is_ring : PySem.W.nsIn K mainGlobals "_law_is_ring" = some (some (.ref a_law_is_ring)))
    (l_law_is_ring : K.lookup a_law_is_ring = some ⟨i_law_is_ring, o_law_is_ring, .func (PySem.W.fnOf "_law_is_ring" "_law_is_ring" (defArgs st_law_is_ring) (defBody st_law_is_ring) (defScope st_law_is_ring) .none j_law_is_ring u_law_is_ring v_law_is_ring w_law_is_ring r_law_is_ring y_law_is_ring), q_law_is_ring⟩)
    (p_law_is_ring : PySem.W.codeIn K r_law_is_ring "_law_is_ring" = true)
    (k_law_is_ring : PySem.W.keepIn K (.ref a_law_is_ring) = true)
    (g_law_are_ranks : PySem.W.nsIn K mainGlobals "_law_are_ranks" = some (some (.ref a_law_are_ranks)))
    (l_law_are_ranks : K.lookup a_law_are_ranks = some ⟨i_law_are_ranks, o_law_are_ranks, .func (PySem.W.fnOf "_law_are_ranks" "_law_are_ranks" (defArgs st_law_are_ranks) (defBody st_law_are_ranks) (defScope st_law_are_ranks) .none j_law_are_ranks u_law_are_ranks v_law_are_ranks w_law_are_ranks r_law_are_ranks y_law_are_ranks), q_law_are_ranks⟩)
    (p_law_are_ranks : PySem.W.codeIn K r_law_are_ranks "_law_are_ranks" = true)
    (k_law_are_ranks : PySem.W.keepIn K (.ref a_law_are_ranks) = true)
    (g_law_right : PySem.W.nsIn K mainGlobals "_law_right" = some (some (.ref a_law_right)))
    (l_law_right : K.lookup a_law_right = some ⟨i_law_right, o_law_right, .func (PySem.W.fnOf "_law_right" "_law_right" (defArgs st_law_right) (defBody st_law_right) (defScope st_law_right) .none j_law_right u_law_right v_law_right w_law_right r_law_right y_law_right), q_law_right⟩)
    (p_law_right : PySem.W.codeIn K r_law_right "_law_right" = true)
    (k_law_right : PySem.W.keepIn K (.ref a_law_right) = true)
    (g_law : PySem.W.nsIn K mainGlobals "law" = some (some (.ref a_law)))
    (l_law : K.lookup a_law = some ⟨i_law, o_law, .func (PySem.W.fnOf "law" "law" (defArgs st_law) (defBody st_law) (defScope st_law) .none j_law u_law v_law w_law r_law y_law), q_law⟩)
    (p_law : PySem.W.codeIn K r_law "law" = true)
    (k_law : PySem.W.keepIn K (.ref a_law) = true) : Lay K mg :=
  { n_isinstance := PySem.W.mg_none_of X G n_isinstance,
    n_int := PySem.W.mg_none_of X G n_int,
    n_bool := PySem.W.mg_none_of X G n_bool,
    n_list := PySem.W.mg_none_of X G n_list,
    n_len := PySem.W.mg_none_of X G n_len,
    n_all := PySem.W.mg_none_of X G n_all,
    n_range := PySem.W.mg_none_of X G n_range,
    n_sum := PySem.W.mg_none_of X G n_sum,
    n_set := PySem.W.mg_none_of X G n_set,
    n_min := PySem.W.mg_none_of X G n_min,
    n_zip := PySem.W.mg_none_of X G n_zip,
    n_sorted := PySem.W.mg_none_of X G n_sorted,
    n_enumerate := PySem.W.mg_none_of X G n_enumerate,
    n_any := PySem.W.mg_none_of X G n_any,
    n_ValueError := PySem.W.mg_none_of X G n_ValueError,
    t_MOST_FACES := _, c_MOST_FACES := PySem.W.mg_of X G c_MOST_FACES,
    t_GREATEST_FACE := _, c_GREATEST_FACE := PySem.W.mg_of X G c_GREATEST_FACE,
    t_MOST_PLACES := _, c_MOST_PLACES := PySem.W.mg_of X G c_MOST_PLACES,
    t_LEAST_RING := _, c_LEAST_RING := PySem.W.mg_of X G c_LEAST_RING,
    a_DiceError := _, g_DiceError := PySem.W.mg_of X G g_DiceError, x_DiceError := { x := x_DiceError, k := k_DiceError, b := b_DiceError, t := t_DiceError, c := { hg := hg_DiceError, hk := hk_DiceError, hs := b_DiceError, hd := hd_DiceError, ha := ha_DiceError, hn := hn, ht := ht, hm := hm_DiceError } },
    a_BadDie := _, g_BadDie := PySem.W.mg_of X G g_BadDie, x_BadDie := { x := x_BadDie, k := k_BadDie, b := b_BadDie, t := t_BadDie, c := { hg := hg_BadDie, hk := hk_BadDie, hs := b_BadDie, hd := hd_BadDie, ha := ha_BadDie, hn := hn, ht := ht, hm := hm_BadDie } },
    a_BadDice := _, g_BadDice := PySem.W.mg_of X G g_BadDice, x_BadDice := { x := x_BadDice, k := k_BadDice, b := b_BadDice, t := t_BadDice, c := { hg := hg_BadDice, hk := hk_BadDice, hs := b_BadDice, hd := hd_BadDice, ha := ha_BadDice, hn := hn, ht := ht, hm := hm_BadDice } },
    s_BadDie_DiceError := s_BadDie_DiceError, e_BadDie_DiceError := e_BadDie_DiceError,
    s_BadDie_BadDie := s_BadDie_BadDie, e_BadDie_BadDie := e_BadDie_BadDie,
    s_BadDie_BadDice := s_BadDie_BadDice, e_BadDie_BadDice := e_BadDie_BadDice,
    s_BadDice_DiceError := s_BadDice_DiceError, e_BadDice_DiceError := e_BadDice_DiceError,
    s_BadDice_BadDie := s_BadDice_BadDie, e_BadDice_BadDie := e_BadDice_BadDie,
    s_BadDice_BadDice := s_BadDice_BadDice, e_BadDice_BadDice := e_BadDice_BadDice,
    z_DiceError := z_DiceError,
    v_DiceError := v_DiceError,
    z_BadDie := z_BadDie,
    v_BadDie := v_BadDie,
    z_BadDice := z_BadDice,
    v_BadDice := v_BadDice,
    a_is_number := _, d_is_number := _, g_is_number := PySem.W.mg_of X G g_is_number, f_is_number := fun_mk (st := st_is_number) l_is_number p_is_number k_is_number, b_is_number := (fun_mk (st := st_is_number) l_is_number p_is_number k_is_number).binds (ps := ["thing"]) fun _ _ _ _ _ _ us hl => match us, hl with | [_], _ => rfl,
    a_is_face := _, d_is_face := _, g_is_face := PySem.W.mg_of X G g_is_face, f_is_face := fun_mk (st := st_is_face) l_is_face p_is_face k_is_face, b_is_face := (fun_mk (st := st_is_face) l_is_face p_is_face k_is_face).binds (ps := ["thing"]) fun _ _ _ _ _ _ us hl => match us, hl with | [_], _ => rfl,
    a_is_die := _, d_is_die := _, g_is_die := PySem.W.mg_of X G g_is_die, f_is_die := fun_mk (st := st_is_die) l_is_die p_is_die k_is_die, b_is_die := (fun_mk (st := st_is_die) l_is_die p_is_die k_is_die).binds (ps := ["thing"]) fun _ _ _ _ _ _ us hl => match us, hl with | [_], _ => rfl,
    a_need_die := _, d_need_die := _, g_need_die := PySem.W.mg_of X G g_need_die, f_need_die := fun_mk (st := st_need_die) l_need_die p_need_die k_need_die, b_need_die := (fun_mk (st := st_need_die) l_need_die p_need_die k_need_die).binds (ps := ["thing"]) fun _ _ _ _ _ _ us hl => match us, hl with | [_], _ => rfl,
    a_need_dice := _, d_need_dice := _, g_need_dice := PySem.W.mg_of X G g_need_dice, f_need_dice := fun_mk (st := st_need_dice) l_need_dice p_need_dice k_need_dice, b_need_dice := (fun_mk (st := st_need_dice) l_need_dice p_need_dice k_need_dice).binds (ps := ["thing", "most"]) fun _ _ _ _ _ _ us hl => match us, hl with | [_, _], _ => rfl,
    a_beats := _, d_beats := _, g_beats := PySem.W.mg_of X G g_beats, f_beats := fun_mk (st := st_beats) l_beats p_beats k_beats, b_beats := (fun_mk (st := st_beats) l_beats p_beats k_beats).binds (ps := ["one", "other"]) fun _ _ _ _ _ _ us hl => match us, hl with | [_, _], _ => rfl,
    a_throws_above := _, d_throws_above := _, g_throws_above := PySem.W.mg_of X G g_throws_above, f_throws_above := fun_mk (st := st_throws_above) l_throws_above p_throws_above k_throws_above, b_throws_above := (fun_mk (st := st_throws_above) l_throws_above p_throws_above k_throws_above).binds (ps := ["one", "other"]) fun _ _ _ _ _ _ us hl => match us, hl with | [_, _], _ => rfl,
    a_ring := _, d_ring := _, g_ring := PySem.W.mg_of X G g_ring, f_ring := fun_mk (st := st_ring) l_ring p_ring k_ring, b_ring := (fun_mk (st := st_ring) l_ring p_ring k_ring).binds (ps := ["dice"]) fun _ _ _ _ _ _ us hl => match us, hl with | [_], _ => rfl,
    a_ranks := _, d_ranks := _, g_ranks := PySem.W.mg_of X G g_ranks, f_ranks := fun_mk (st := st_ranks) l_ranks p_ranks k_ranks, b_ranks := (fun_mk (st := st_ranks) l_ranks p_ranks k_ranks).binds (ps := ["dice"]) fun _ _ _ _ _ _ us hl => match us, hl with | [_], _ => rfl,
    a_beaten_places := _, d_beaten_places := _, g_beaten_places := PySem.W.mg_of X G g_beaten_places, f_beaten_places := fun_mk (st := st_beaten_places) l_beaten_places p_beaten_places k_beaten_places, b_beaten_places := (fun_mk (st := st_beaten_places) l_beaten_places p_beaten_places k_beaten_places).binds (ps := ["dice"]) fun _ _ _ _ _ _ us hl => match us, hl with | [_], _ => rfl,
    a_ring_from := _, d_ring_from := _, g_ring_from := PySem.W.mg_of X G g_ring_from, f_ring_from := fun_mk (st := st_ring_from) l_ring_from p_ring_from k_ring_from, b_ring_from := (fun_mk (st := st_ring_from) l_ring_from p_ring_from k_ring_from).binds (ps := ["row", "length", "beaten"]) fun _ _ _ _ _ _ us hl => match us, hl with | [_, _, _], _ => rfl,
    a_law_draw := _, d_law_draw := _, g_law_draw := PySem.W.mg_of X G g_law_draw, f_law_draw := fun_mk (st := st_law_draw) l_law_draw p_law_draw k_law_draw, b_law_draw := (fun_mk (st := st_law_draw) l_law_draw p_law_draw k_law_draw).binds (ps := ["_law_script", "_law_k"]) fun _ _ _ _ _ _ us hl => match us, hl with | [_, _], _ => rfl,
    a_law_die := _, d_law_die := _, g_law_die := PySem.W.mg_of X G g_law_die, f_law_die := fun_mk (st := st_law_die) l_law_die p_law_die k_law_die, b_law_die := (fun_mk (st := st_law_die) l_law_die p_law_die k_law_die).binds (ps := ["_law_script", "_law_k", "_law_most", "_law_top"]) fun _ _ _ _ _ _ us hl => match us, hl with | [_, _, _, _], _ => rfl,
    a_law_beats := _, d_law_beats := _, g_law_beats := PySem.W.mg_of X G g_law_beats, f_law_beats := fun_mk (st := st_law_beats) l_law_beats p_law_beats k_law_beats, b_law_beats := (fun_mk (st := st_law_beats) l_law_beats p_law_beats k_law_beats).binds (ps := ["_law_one", "_law_other"]) fun _ _ _ _ _ _ us hl => match us, hl with | [_, _], _ => rfl,
    a_law_dice := _, d_law_dice := _, g_law_dice := PySem.W.mg_of X G g_law_dice, f_law_dice := fun_mk (st := st_law_dice) l_law_dice p_law_dice k_law_dice, b_law_dice := (fun_mk (st := st_law_dice) l_law_dice p_law_dice k_law_dice).binds (ps := ["_law_script"]) fun _ _ _ _ _ _ us hl => match us, hl with | [_], _ => rfl,
    a_law_is_ring := _, d_law_is_ring := _, g_law_is_ring := PySem.W.mg_of X G g_law_is_ring, f_law_is_ring := fun_mk (st := st_law_is_ring) l_law_is_ring p_law_is_ring k_law_is_ring, b_law_is_ring := (fun_mk (st := st_law_is_ring) l_law_is_ring p_law_is_ring k_law_is_ring).binds (ps := ["_law_dice_here", "_law_found"]) fun _ _ _ _ _ _ us hl => match us, hl with | [_, _], _ => rfl,
    a_law_are_ranks := _, d_law_are_ranks := _, g_law_are_ranks := PySem.W.mg_of X G g_law_are_ranks, f_law_are_ranks := fun_mk (st := st_law_are_ranks) l_law_are_ranks p_law_are_ranks k_law_are_ranks, b_law_are_ranks := (fun_mk (st := st_law_are_ranks) l_law_are_ranks p_law_are_ranks k_law_are_ranks).binds (ps := ["_law_dice_here", "_law_found"]) fun _ _ _ _ _ _ us hl => match us, hl with | [_, _], _ => rfl,
    a_law_right := _, d_law_right := _, g_law_right := PySem.W.mg_of X G g_law_right, f_law_right := fun_mk (st := st_law_right) l_law_right p_law_right k_law_right, b_law_right := (fun_mk (st := st_law_right) l_law_right p_law_right k_law_right).binds (ps := ["_law_dice_here"]) fun _ _ _ _ _ _ us hl => match us, hl with | [_], _ => rfl,
    a_law := _, d_law := _, g_law := PySem.W.mg_of X G g_law, f_law := fun_mk (st := st_law) l_law p_law k_law, b_law := (fun_mk (st := st_law) l_law p_law k_law).binds (ps := ["_law_script"]) fun _ _ _ _ _ _ us hl => match us, hl with | [_], _ => rfl }
theorem all_mk {l : PySem.W.OpenLaw} {w : World} {K : PySem.W.Frag} {h : Heap} {mg : Str → Option Value} {fa : Addr} (X : K.In h) (G : h.Ns mainGlobals mg) (hfa : mg "law" = some (.ref fa))
    {t_MOST_FACES : Tok}
    {t_GREATEST_FACE : Tok}
    {t_MOST_PLACES : Tok}
    {t_LEAST_RING : Tok}
    {a_DiceError : Addr}
    {a_BadDie : Addr}
    {a_BadDice : Addr}
    {o_is_number : Option Addr} {w_is_number : Option Addr} {q_is_number : Array (Option Value)} {i_is_number j_is_number u_is_number v_is_number r_is_number y_is_number : Value} {a_is_number : Addr}
    {o_is_face : Option Addr} {w_is_face : Option Addr} {q_is_face : Array (Option Value)} {i_is_face j_is_face u_is_face v_is_face r_is_face y_is_face : Value} {a_is_face : Addr}
    {o_is_die : Option Addr} {w_is_die : Option Addr} {q_is_die : Array (Option Value)} {i_is_die j_is_die u_is_die v_is_die r_is_die y_is_die : Value} {a_is_die : Addr}
    {o_need_die : Option Addr} {w_need_die : Option Addr} {q_need_die : Array (Option Value)} {i_need_die j_need_die u_need_die v_need_die r_need_die y_need_die : Value} {a_need_die : Addr}
    {o_need_dice : Option Addr} {w_need_dice : Option Addr} {q_need_dice : Array (Option Value)} {i_need_dice j_need_dice u_need_dice v_need_dice r_need_dice y_need_dice : Value} {a_need_dice : Addr}
    {o_beats : Option Addr} {w_beats : Option Addr} {q_beats : Array (Option Value)} {i_beats j_beats u_beats v_beats r_beats y_beats : Value} {a_beats : Addr}
    {o_throws_above : Option Addr} {w_throws_above : Option Addr} {q_throws_above : Array (Option Value)} {i_throws_above j_throws_above u_throws_above v_throws_above r_throws_above y_throws_above : Value} {a_throws_above : Addr}
    {o_ring : Option Addr} {w_ring : Option Addr} {q_ring : Array (Option Value)} {i_ring j_ring u_ring v_ring r_ring y_ring : Value} {a_ring : Addr}
    {o_ranks : Option Addr} {w_ranks : Option Addr} {q_ranks : Array (Option Value)} {i_ranks j_ranks u_ranks v_ranks r_ranks y_ranks : Value} {a_ranks : Addr}
    {o_beaten_places : Option Addr} {w_beaten_places : Option Addr} {q_beaten_places : Array (Option Value)} {i_beaten_places j_beaten_places u_beaten_places v_beaten_places r_beaten_places y_beaten_places : Value} {a_beaten_places : Addr}
    {o_ring_from : Option Addr} {w_ring_from : Option Addr} {q_ring_from : Array (Option Value)} {i_ring_from j_ring_from u_ring_from v_ring_from r_ring_from y_ring_from : Value} {a_ring_from : Addr}
    {o_law_draw : Option Addr} {w_law_draw : Option Addr} {q_law_draw : Array (Option Value)} {i_law_draw j_law_draw u_law_draw v_law_draw r_law_draw y_law_draw : Value} {a_law_draw : Addr}
    {o_law_die : Option Addr} {w_law_die : Option Addr} {q_law_die : Array (Option Value)} {i_law_die j_law_die u_law_die v_law_die r_law_die y_law_die : Value} {a_law_die : Addr}
    {o_law_beats : Option Addr} {w_law_beats : Option Addr} {q_law_beats : Array (Option Value)} {i_law_beats j_law_beats u_law_beats v_law_beats r_law_beats y_law_beats : Value} {a_law_beats : Addr}
    {o_law_dice : Option Addr} {w_law_dice : Option Addr} {q_law_dice : Array (Option Value)} {i_law_dice j_law_dice u_law_dice v_law_dice r_law_dice y_law_dice : Value} {a_law_dice : Addr}
    {o_law_is_ring : Option Addr} {w_law_is_ring : Option Addr} {q_law_is_ring : Array (Option Value)} {i_law_is_ring j_law_is_ring u_law_is_ring v_law_is_ring r_law_is_ring y_law_is_ring : Value} {a_law_is_ring : Addr}
    {o_law_are_ranks : Option Addr} {w_law_are_ranks : Option Addr} {q_law_are_ranks : Array (Option Value)} {i_law_are_ranks j_law_are_ranks u_law_are_ranks v_law_are_ranks r_law_are_ranks y_law_are_ranks : Value} {a_law_are_ranks : Addr}
    {o_law_right : Option Addr} {w_law_right : Option Addr} {q_law_right : Array (Option Value)} {i_law_right j_law_right u_law_right v_law_right r_law_right y_law_right : Value} {a_law_right : Addr}
    {o_law : Option Addr} {w_law : Option Addr} {q_law : Array (Option Value)} {i_law j_law u_law v_law r_law y_law : Value} {a_law : Addr}
    (n_isinstance : PySem.W.nsIn K mainGlobals "isinstance" = some none)
    (n_int : PySem.W.nsIn K mainGlobals "int" = some none)
    (n_bool : PySem.W.nsIn K mainGlobals "bool" = some none)
    (n_list : PySem.W.nsIn K mainGlobals "list" = some none)
    (n_len : PySem.W.nsIn K mainGlobals "len" = some none)
    (n_all : PySem.W.nsIn K mainGlobals "all" = some none)
    (n_range : PySem.W.nsIn K mainGlobals "range" = some none)
    (n_sum : PySem.W.nsIn K mainGlobals "sum" = some none)
    (n_set : PySem.W.nsIn K mainGlobals "set" = some none)
    (n_min : PySem.W.nsIn K mainGlobals "min" = some none)
    (n_zip : PySem.W.nsIn K mainGlobals "zip" = some none)
    (n_sorted : PySem.W.nsIn K mainGlobals "sorted" = some none)
    (n_enumerate : PySem.W.nsIn K mainGlobals "enumerate" = some none)
    (n_any : PySem.W.nsIn K mainGlobals "any" = some none)
    (n_ValueError : PySem.W.nsIn K mainGlobals "ValueError" = some none)
    (c_MOST_FACES : PySem.W.nsIn K mainGlobals "MOST_FACES" = some (some (.int 8 t_MOST_FACES)))
    (c_GREATEST_FACE : PySem.W.nsIn K mainGlobals "GREATEST_FACE" = some (some (.int 99 t_GREATEST_FACE)))
    (c_MOST_PLACES : PySem.W.nsIn K mainGlobals "MOST_PLACES" = some (some (.int 8 t_MOST_PLACES)))
    (c_LEAST_RING : PySem.W.nsIn K mainGlobals "LEAST_RING" = some (some (.int 3 t_LEAST_RING)))
    (hn : PySem.W.specialIn K (.builtin "object.__class__") "__get__" = some (some (.builtin "getset_descriptor.__get__")))
    (ht : PySem.W.takesIn K (.builtin "object.__class__") = some true)
    (g_DiceError : PySem.W.nsIn K mainGlobals "DiceError" = some (some (.ref a_DiceError)))
    (x_DiceError : PySem.W.excIn K a_DiceError [.type "ValueError", .type "Exception", .type "BaseException", .type "object"] "ValueError.__new__" = true)
    (k_DiceError : PySem.W.keepIn K (.ref a_DiceError) = true)
    (b_DiceError : PySem.W.subIn K (.ref a_DiceError) (.type "BaseException") = some true)
    (t_DiceError : PySem.W.typeIn K (.ref a_DiceError) = some (.type "type"))
    (hg_DiceError : PySem.W.findIn K (.ref a_DiceError) "__getattribute__" = some (some (.builtin "BaseException.__getattribute__")))
    (hk_DiceError : PySem.W.findIn K (.ref a_DiceError) "__getattr__" = some none)
    (hd_DiceError : PySem.W.hasDictIn K a_DiceError = true)
    (ha_DiceError : PySem.W.findIn K (.ref a_DiceError) "__class__" = some (some (.builtin "object.__class__")))
    (hm_DiceError : PySem.W.mroIn K a_DiceError (.type "object") = some true)
    (g_BadDie : PySem.W.nsIn K mainGlobals "BadDie" = some (some (.ref a_BadDie)))
    (x_BadDie : PySem.W.excIn K a_BadDie [.type "ValueError", .type "Exception", .type "BaseException", .type "object"] "ValueError.__new__" = true)
    (k_BadDie : PySem.W.keepIn K (.ref a_BadDie) = true)
    (b_BadDie : PySem.W.subIn K (.ref a_BadDie) (.type "BaseException") = some true)
    (t_BadDie : PySem.W.typeIn K (.ref a_BadDie) = some (.type "type"))
    (hg_BadDie : PySem.W.findIn K (.ref a_BadDie) "__getattribute__" = some (some (.builtin "BaseException.__getattribute__")))
    (hk_BadDie : PySem.W.findIn K (.ref a_BadDie) "__getattr__" = some none)
    (hd_BadDie : PySem.W.hasDictIn K a_BadDie = true)
    (ha_BadDie : PySem.W.findIn K (.ref a_BadDie) "__class__" = some (some (.builtin "object.__class__")))
    (hm_BadDie : PySem.W.mroIn K a_BadDie (.type "object") = some true)
    (g_BadDice : PySem.W.nsIn K mainGlobals "BadDice" = some (some (.ref a_BadDice)))
    (x_BadDice : PySem.W.excIn K a_BadDice [.type "ValueError", .type "Exception", .type "BaseException", .type "object"] "ValueError.__new__" = true)
    (k_BadDice : PySem.W.keepIn K (.ref a_BadDice) = true)
    (b_BadDice : PySem.W.subIn K (.ref a_BadDice) (.type "BaseException") = some true)
    (t_BadDice : PySem.W.typeIn K (.ref a_BadDice) = some (.type "type"))
    (hg_BadDice : PySem.W.findIn K (.ref a_BadDice) "__getattribute__" = some (some (.builtin "BaseException.__getattribute__")))
    (hk_BadDice : PySem.W.findIn K (.ref a_BadDice) "__getattr__" = some none)
    (hd_BadDice : PySem.W.hasDictIn K a_BadDice = true)
    (ha_BadDice : PySem.W.findIn K (.ref a_BadDice) "__class__" = some (some (.builtin "object.__class__")))
    (hm_BadDice : PySem.W.mroIn K a_BadDice (.type "object") = some true)
    (s_BadDie_DiceError : PySem.W.kitOne K (.ref a_BadDie) (.ref a_DiceError) = some true)
    (e_BadDie_DiceError : PySem.W.subIn K (.ref a_BadDie) (.ref a_DiceError) = some true)
    (s_BadDie_BadDie : PySem.W.kitOne K (.ref a_BadDie) (.ref a_BadDie) = some true)
    (e_BadDie_BadDie : PySem.W.subIn K (.ref a_BadDie) (.ref a_BadDie) = some true)
    (s_BadDie_BadDice : PySem.W.kitOne K (.ref a_BadDie) (.ref a_BadDice) = some false)
    (e_BadDie_BadDice : PySem.W.subIn K (.ref a_BadDie) (.ref a_BadDice) = some false)
    (s_BadDice_DiceError : PySem.W.kitOne K (.ref a_BadDice) (.ref a_DiceError) = some true)
    (e_BadDice_DiceError : PySem.W.subIn K (.ref a_BadDice) (.ref a_DiceError) = some true)
    (s_BadDice_BadDie : PySem.W.kitOne K (.ref a_BadDice) (.ref a_BadDie) = some false)
    (e_BadDice_BadDie : PySem.W.subIn K (.ref a_BadDice) (.ref a_BadDie) = some false)
    (s_BadDice_BadDice : PySem.W.kitOne K (.ref a_BadDice) (.ref a_BadDice) = some true)
    (e_BadDice_BadDice : PySem.W.subIn K (.ref a_BadDice) (.ref a_BadDice) = some true)
    (z_DiceError : PySem.W.kitOne K (.type "NoneType") (.ref a_DiceError) = some false)
    (v_DiceError : PySem.W.kitOne K (.ref a_DiceError) (.type "ValueError") = some true)
    (z_BadDie : PySem.W.kitOne K (.type "NoneType") (.ref a_BadDie) = some false)
    (v_BadDie : PySem.W.kitOne K (.ref a_BadDie) (.type "ValueError") = some true)
    (z_BadDice : PySem.W.kitOne K (.type "NoneType") (.ref a_BadDice) = some false)
    (v_BadDice : PySem.W.kitOne K (.ref a_BadDice) (.type "ValueError") = some true)
    (g_is_number : PySem.W.nsIn K mainGlobals "is_number" = some (some (.ref a_is_number)))
    (l_is_number : K.lookup a_is_number = some ⟨i_is_number, o_is_number, .func (PySem.W.fnOf "is_number" "is_number" (defArgs st_is_number) (defBody st_is_number) (defScope st_is_number) .none j_is_number u_is_number v_is_number w_is_number r_is_number y_is_number), q_is_number⟩)
    (p_is_number : PySem.W.codeIn K r_is_number "is_number" = true)
    (k_is_number : PySem.W.keepIn K (.ref a_is_number) = true)
    (g_is_face : PySem.W.nsIn K mainGlobals "is_face" = some (some (.ref a_is_face)))
    (l_is_face : K.lookup a_is_face = some ⟨i_is_face, o_is_face, .func (PySem.W.fnOf "is_face" "is_face" (defArgs st_is_face) (defBody st_is_face) (defScope st_is_face) .none j_is_face u_is_face v_is_face w_is_face r_is_face y_is_face), q_is_face⟩)
    (p_is_face : PySem.W.codeIn K r_is_face "is_face" = true)
    (k_is_face : PySem.W.keepIn K (.ref a_is_face) = true)
    (g_is_die : PySem.W.nsIn K mainGlobals "is_die" = some (some (.ref a_is_die)))
    (l_is_die : K.lookup a_is_die = some ⟨i_is_die, o_is_die, .func (PySem.W.fnOf "is_die" "is_die" (defArgs st_is_die) (defBody st_is_die) (defScope st_is_die) .none j_is_die u_is_die v_is_die w_is_die r_is_die y_is_die), q_is_die⟩)
    (p_is_die : PySem.W.codeIn K r_is_die "is_die" = true)
    (k_is_die : PySem.W.keepIn K (.ref a_is_die) = true)
    (g_need_die : PySem.W.nsIn K mainGlobals "need_die" = some (some (.ref a_need_die)))
    (l_need_die : K.lookup a_need_die = some ⟨i_need_die, o_need_die, .func (PySem.W.fnOf "need_die" "need_die" (defArgs st_need_die) (defBody st_need_die) (defScope st_need_die) .none j_need_die u_need_die v_need_die w_need_die r_need_die y_need_die), q_need_die⟩)
    (p_need_die : PySem.W.codeIn K r_need_die "need_die" = true)
    (k_need_die : PySem.W.keepIn K (.ref a_need_die) = true)
    (g_need_dice : PySem.W.nsIn K mainGlobals "need_dice" = some (some (.ref a_need_dice)))
    (l_need_dice : K.lookup a_need_dice = some ⟨i_need_dice, o_need_dice, .func (PySem.W.fnOf "need_dice" "need_dice" (defArgs st_need_dice) (defBody st_need_dice) (defScope st_need_dice) .none j_need_dice u_need_dice v_need_dice w_need_dice r_need_dice y_need_dice), q_need_dice⟩)
    (p_need_dice : PySem.W.codeIn K r_need_dice "need_dice" = true)
    (k_need_dice : PySem.W.keepIn K (.ref a_need_dice) = true)
    (g_beats : PySem.W.nsIn K mainGlobals "beats" = some (some (.ref a_beats)))
    (l_beats : K.lookup a_beats = some ⟨i_beats, o_beats, .func (PySem.W.fnOf "beats" "beats" (defArgs st_beats) (defBody st_beats) (defScope st_beats) .none j_beats u_beats v_beats w_beats r_beats y_beats), q_beats⟩)
    (p_beats : PySem.W.codeIn K r_beats "beats" = true)
    (k_beats : PySem.W.keepIn K (.ref a_beats) = true)
    (g_throws_above : PySem.W.nsIn K mainGlobals "throws_above" = some (some (.ref a_throws_above)))
    (l_throws_above : K.lookup a_throws_above = some ⟨i_throws_above, o_throws_above, .func (PySem.W.fnOf "throws_above" "throws_above" (defArgs st_throws_above) (defBody st_throws_above) (defScope st_throws_above) .none j_throws_above u_throws_above v_throws_above w_throws_above r_throws_above y_throws_above), q_throws_above⟩)
    (p_throws_above : PySem.W.codeIn K r_throws_above "throws_above" = true)
    (k_throws_above : PySem.W.keepIn K (.ref a_throws_above) = true)
    (g_ring : PySem.W.nsIn K mainGlobals "ring" = some (some (.ref a_ring)))
    (l_ring : K.lookup a_ring = some ⟨i_ring, o_ring, .func (PySem.W.fnOf "ring" "ring" (defArgs st_ring) (defBody st_ring) (defScope st_ring) .none j_ring u_ring v_ring w_ring r_ring y_ring), q_ring⟩)
    (p_ring : PySem.W.codeIn K r_ring "ring" = true)
    (k_ring : PySem.W.keepIn K (.ref a_ring) = true)
    (g_ranks : PySem.W.nsIn K mainGlobals "ranks" = some (some (.ref a_ranks)))
    (l_ranks : K.lookup a_ranks = some ⟨i_ranks, o_ranks, .func (PySem.W.fnOf "ranks" "ranks" (defArgs st_ranks) (defBody st_ranks) (defScope st_ranks) .none j_ranks u_ranks v_ranks w_ranks r_ranks y_ranks), q_ranks⟩)
    (p_ranks : PySem.W.codeIn K r_ranks "ranks" = true)
    (k_ranks : PySem.W.keepIn K (.ref a_ranks) = true)
    (g_beaten_places : PySem.W.nsIn K mainGlobals "beaten_places" = some (some (.ref a_beaten_places)))
    (l_beaten_places : K.lookup a_beaten_places = some ⟨i_beaten_places, o_beaten_places, .func (PySem.W.fnOf "beaten_places" "beaten_places" (defArgs st_beaten_places) (defBody st_beaten_places) (defScope st_beaten_places) .none j_beaten_places u_beaten_places v_beaten_places w_beaten_places r_beaten_places y_beaten_places), q_beaten_places⟩)
    (p_beaten_places : PySem.W.codeIn K r_beaten_places "beaten_places" = true)
    (k_beaten_places : PySem.W.keepIn K (.ref a_beaten_places) = true)
    (g_ring_from : PySem.W.nsIn K mainGlobals "ring_from" = some (some (.ref a_ring_from)))
    (l_ring_from : K.lookup a_ring_from = some ⟨i_ring_from, o_ring_from, .func (PySem.W.fnOf "ring_from" "ring_from" (defArgs st_ring_from) (defBody st_ring_from) (defScope st_ring_from) .none j_ring_from u_ring_from v_ring_from w_ring_from r_ring_from y_ring_from), q_ring_from⟩)
    (p_ring_from : PySem.W.codeIn K r_ring_from "ring_from" = true)
    (k_ring_from : PySem.W.keepIn K (.ref a_ring_from) = true)
    (g_law_draw : PySem.W.nsIn K mainGlobals "_law_draw" = some (some (.ref a_law_draw)))
    (l_law_draw : K.lookup a_law_draw = some ⟨i_law_draw, o_law_draw, .func (PySem.W.fnOf "_law_draw" "_law_draw" (defArgs st_law_draw) (defBody st_law_draw) (defScope st_law_draw) .none j_law_draw u_law_draw v_law_draw w_law_draw r_law_draw y_law_draw), q_law_draw⟩)
    (p_law_draw : PySem.W.codeIn K r_law_draw "_law_draw" = true)
    (k_law_draw : PySem.W.keepIn K (.ref a_law_draw) = true)
    (g_law_die : PySem.W.nsIn K mainGlobals "_law_die" = some (some (.ref a_law_die)))
    (l_law_die : K.lookup a_law_die = some ⟨i_law_die, o_law_die, .func (PySem.W.fnOf "_law_die" "_law_die" (defArgs st_law_die) (defBody st_law_die) (defScope st_law_die) .none j_law_die u_law_die v_law_die w_law_die r_law_die y_law_die), q_law_die⟩)
    (p_law_die : PySem.W.codeIn K r_law_die "_law_die" = true)
    (k_law_die : PySem.W.keepIn K (.ref a_law_die) = true)
    (g_law_beats : PySem.W.nsIn K mainGlobals "_law_beats" = some (some (.ref a_law_beats)))
    (l_law_beats : K.lookup a_law_beats = some ⟨i_law_beats, o_law_beats, .func (PySem.W.fnOf "_law_beats" "_law_beats" (defArgs st_law_beats) (defBody st_law_beats) (defScope st_law_beats) .none j_law_beats u_law_beats v_law_beats w_law_beats r_law_beats y_law_beats), q_law_beats⟩)
    (p_law_beats : PySem.W.codeIn K r_law_beats "_law_beats" = true)
    (k_law_beats : PySem.W.keepIn K (.ref a_law_beats) = true)
    (g_law_dice : PySem.W.nsIn K mainGlobals "_law_dice" = some (some (.ref a_law_dice)))
    (l_law_dice : K.lookup a_law_dice = some ⟨i_law_dice, o_law_dice, .func (PySem.W.fnOf "_law_dice" "_law_dice" (defArgs st_law_dice) (defBody st_law_dice) (defScope st_law_dice) .none j_law_dice u_law_dice v_law_dice w_law_dice r_law_dice y_law_dice), q_law_dice⟩)
    (p_law_dice : PySem.W.codeIn K r_law_dice "_law_dice" = true)
    (k_law_dice : PySem.W.keepIn K (.ref a_law_dice) = true)
    (g_law_is_ring : PySem.W.nsIn K mainGlobals "_law_is_ring" = some (some (.ref a_law_is_ring)))
    (l_law_is_ring : K.lookup a_law_is_ring = some ⟨i_law_is_ring, o_law_is_ring, .func (PySem.W.fnOf "_law_is_ring" "_law_is_ring" (defArgs st_law_is_ring) (defBody st_law_is_ring) (defScope st_law_is_ring) .none j_law_is_ring u_law_is_ring v_law_is_ring w_law_is_ring r_law_is_ring y_law_is_ring), q_law_is_ring⟩)
    (p_law_is_ring : PySem.W.codeIn K r_law_is_ring "_law_is_ring" = true)
    (k_law_is_ring : PySem.W.keepIn K (.ref a_law_is_ring) = true)
    (g_law_are_ranks : PySem.W.nsIn K mainGlobals "_law_are_ranks" = some (some (.ref a_law_are_ranks)))
    (l_law_are_ranks : K.lookup a_law_are_ranks = some ⟨i_law_are_ranks, o_law_are_ranks, .func (PySem.W.fnOf "_law_are_ranks" "_law_are_ranks" (defArgs st_law_are_ranks) (defBody st_law_are_ranks) (defScope st_law_are_ranks) .none j_law_are_ranks u_law_are_ranks v_law_are_ranks w_law_are_ranks r_law_are_ranks y_law_are_ranks), q_law_are_ranks⟩)
    (p_law_are_ranks : PySem.W.codeIn K r_law_are_ranks "_law_are_ranks" = true)
    (k_law_are_ranks : PySem.W.keepIn K (.ref a_law_are_ranks) = true)
    (g_law_right : PySem.W.nsIn K mainGlobals "_law_right" = some (some (.ref a_law_right)))
    (l_law_right : K.lookup a_law_right = some ⟨i_law_right, o_law_right, .func (PySem.W.fnOf "_law_right" "_law_right" (defArgs st_law_right) (defBody st_law_right) (defScope st_law_right) .none j_law_right u_law_right v_law_right w_law_right r_law_right y_law_right), q_law_right⟩)
    (p_law_right : PySem.W.codeIn K r_law_right "_law_right" = true)
    (k_law_right : PySem.W.keepIn K (.ref a_law_right) = true)
    (g_law : PySem.W.nsIn K mainGlobals "law" = some (some (.ref a_law)))
    (l_law : K.lookup a_law = some ⟨i_law, o_law, .func (PySem.W.fnOf "law" "law" (defArgs st_law) (defBody st_law) (defScope st_law) .none j_law u_law v_law w_law r_law y_law), q_law⟩)
    (p_law : PySem.W.codeIn K r_law "law" = true)
    (k_law : PySem.W.keepIn K (.ref a_law) = true) :
    ∃ fd : FuncData, (∀ (s : Shared) (v : Value), BindsTo s fd ⟨[v], []⟩ [("_law_script", v)]) ∧ ∀ base : Heap, K.In base → base.Ns mainGlobals mg → FnOk l.prog w K mg base CX0 12 fa fd ["_law_script"] (spLaw K) := by
  have e := hfa.symm.trans (PySem.W.mg_of X G g_law)
  cases e
  exact ⟨(lay_mk X G n_isinstance n_int n_bool n_list n_len n_all n_range n_sum n_set n_min n_zip n_sorted n_enumerate n_any n_ValueError c_MOST_FACES c_GREATEST_FACE c_MOST_PLACES c_LEAST_RING hn ht g_DiceError x_DiceError k_DiceError b_DiceError t_DiceError hg_DiceError hk_DiceError hd_DiceError ha_DiceError hm_DiceError g_BadDie x_BadDie k_BadDie b_BadDie t_BadDie hg_BadDie hk_BadDie hd_BadDie ha_BadDie hm_BadDie g_BadDice x_BadDice k_BadDice b_BadDice t_BadDice hg_BadDice hk_BadDice hd_BadDice ha_BadDice hm_BadDice s_BadDie_DiceError e_BadDie_DiceError s_BadDie_BadDie e_BadDie_BadDie s_BadDie_BadDice e_BadDie_BadDice s_BadDice_DiceError e_BadDice_DiceError s_BadDice_BadDie e_BadDice_BadDie s_BadDice_BadDice e_BadDice_BadDice z_DiceError v_DiceError z_BadDie v_BadDie z_BadDice v_BadDice g_is_number l_is_number p_is_number k_is_number g_is_face l_is_face p_is_face k_is_face g_is_die l_is_die p_is_die k_is_die g_need_die l_need_die p_need_die k_need_die g_need_dice l_need_dice p_need_dice k_need_dice g_beats l_beats p_beats k_beats g_throws_above l_throws_above p_throws_above k_throws_above g_ring l_ring p_ring k_ring g_ranks l_ranks p_ranks k_ranks g_beaten_places l_beaten_places p_beaten_places k_beaten_places g_ring_from l_ring_from p_ring_from k_ring_from g_law_draw l_law_draw p_law_draw k_law_draw g_law_die l_law_die p_law_die k_law_die g_law_beats l_law_beats p_law_beats k_law_beats g_law_dice l_law_dice p_law_dice k_law_dice g_law_is_ring l_law_is_ring p_law_is_ring k_law_is_ring g_law_are_ranks l_law_are_ranks p_law_are_ranks k_law_are_ranks g_law_right l_law_right p_law_right k_law_right g_law l_law p_law k_law).d_law, fun s v => .of_eq rfl, fun base _ _ => ok_law (lay_mk X G n_isinstance n_int n_bool n_list n_len n_all n_range n_sum n_set n_min n_zip n_sorted n_enumerate n_any n_ValueError c_MOST_FACES c_GREATEST_FACE c_MOST_PLACES c_LEAST_RING hn ht g_DiceError x_DiceError k_DiceError b_DiceError t_DiceError hg_DiceError hk_DiceError hd_DiceError ha_DiceError hm_DiceError g_BadDie x_BadDie k_BadDie b_BadDie t_BadDie hg_BadDie hk_BadDie hd_BadDie ha_BadDie hm_BadDie g_BadDice x_BadDice k_BadDice b_BadDice t_BadDice hg_BadDice hk_BadDice hd_BadDice ha_BadDice hm_BadDice s_BadDie_DiceError e_BadDie_DiceError s_BadDie_BadDie e_BadDie_BadDie s_BadDie_BadDice e_BadDie_BadDice s_BadDice_DiceError e_BadDice_DiceError s_BadDice_BadDie e_BadDice_BadDie s_BadDice_BadDice e_BadDice_BadDice z_DiceError v_DiceError z_BadDie v_BadDie z_BadDice v_BadDice g_is_number l_is_number p_is_number k_is_number g_is_face l_is_face p_is_face k_is_face g_is_die l_is_die p_is_die k_is_die g_need_die l_need_die p_need_die k_need_die g_need_dice l_need_dice p_need_dice k_need_dice g_beats l_beats p_beats k_beats g_throws_above l_throws_above p_throws_above k_throws_above g_ring l_ring p_ring k_ring g_ranks l_ranks p_ranks k_ranks g_beaten_places l_beaten_places p_beaten_places k_beaten_places g_ring_from l_ring_from p_ring_from k_ring_from g_law_draw l_law_draw p_law_draw k_law_draw g_law_die l_law_die p_law_die k_law_die g_law_beats l_law_beats p_law_beats k_law_beats g_law_dice l_law_dice p_law_dice k_law_dice g_law_is_ring l_law_is_ring p_law_is_ring k_law_is_ring g_law_are_ranks l_law_are_ranks p_law_are_ranks k_law_are_ranks g_law_right l_law_right p_law_right k_law_right g_law l_law p_law k_law)⟩
end My
open PySem PySem.W PyProof.Rows
set_option maxHeartbeats 0 in
theorem PySem.Challenge.cw_dicepairs_k06_whole_ring_or_ranks_holds : PySem.Challenge.rw_dicepairs_k06_whole_ring_or_ranks.Holds := by
  w_on; o_law; k_head; (case hw => w_witness2)
  k_fill
  refine L2.walk_of (l := PySem.Challenge.rw_dicepairs_k06_whole_ring_or_ranks) (n := 63) (k := 12) (x := "_law_script") (CX := fun _ => L2.CX0) (sp := fun w => My.spLaw _) rfl (by decide) rfl ⟨rfl, by decide, by decide⟩ (fun w h Y => PySem.W.kIn_of Y) ?F (fun _ _ a ns hl _ hS => ⟨a, ns, rfl, hS, hl, fun _ => rfl⟩) (fun _ _ _ _ _ h => h)
  case F =>
    intro w mg fa h KX G hmg
    refine' My.all_mk KX G hmg ?n_isinstance ?n_int ?n_bool ?n_list ?n_len ?n_all ?n_range ?n_sum ?n_set ?n_min ?n_zip ?n_sorted ?n_enumerate ?n_any ?n_ValueError ?c_MOST_FACES ?c_GREATEST_FACE ?c_MOST_PLACES ?c_LEAST_RING ?hn ?ht ?g_DiceError ?x_DiceError ?k_DiceError ?b_DiceError ?t_DiceError ?hg_DiceError ?hk_DiceError ?hd_DiceError ?ha_DiceError ?hm_DiceError ?g_BadDie ?x_BadDie ?k_BadDie ?b_BadDie ?t_BadDie ?hg_BadDie ?hk_BadDie ?hd_BadDie ?ha_BadDie ?hm_BadDie ?g_BadDice ?x_BadDice ?k_BadDice ?b_BadDice ?t_BadDice ?hg_BadDice ?hk_BadDice ?hd_BadDice ?ha_BadDice ?hm_BadDice ?s_BadDie_DiceError ?e_BadDie_DiceError ?s_BadDie_BadDie ?e_BadDie_BadDie ?s_BadDie_BadDice ?e_BadDie_BadDice ?s_BadDice_DiceError ?e_BadDice_DiceError ?s_BadDice_BadDie ?e_BadDice_BadDie ?s_BadDice_BadDice ?e_BadDice_BadDice ?z_DiceError ?v_DiceError ?z_BadDie ?v_BadDie ?z_BadDice ?v_BadDice ?g_is_number ?l_is_number ?p_is_number ?k_is_number ?g_is_face ?l_is_face ?p_is_face ?k_is_face ?g_is_die ?l_is_die ?p_is_die ?k_is_die ?g_need_die ?l_need_die ?p_need_die ?k_need_die ?g_need_dice ?l_need_dice ?p_need_dice ?k_need_dice ?g_beats ?l_beats ?p_beats ?k_beats ?g_throws_above ?l_throws_above ?p_throws_above ?k_throws_above ?g_ring ?l_ring ?p_ring ?k_ring ?g_ranks ?l_ranks ?p_ranks ?k_ranks ?g_beaten_places ?l_beaten_places ?p_beaten_places ?k_beaten_places ?g_ring_from ?l_ring_from ?p_ring_from ?k_ring_from ?g_law_draw ?l_law_draw ?p_law_draw ?k_law_draw ?g_law_die ?l_law_die ?p_law_die ?k_law_die ?g_law_beats ?l_law_beats ?p_law_beats ?k_law_beats ?g_law_dice ?l_law_dice ?p_law_dice ?k_law_dice ?g_law_is_ring ?l_law_is_ring ?p_law_is_ring ?k_law_is_ring ?g_law_are_ranks ?l_law_are_ranks ?p_law_are_ranks ?k_law_are_ranks ?g_law_right ?l_law_right ?p_law_right ?k_law_right ?g_law ?l_law ?p_law ?k_law
    (case n_isinstance => first | k_is | rfl)
    (case n_int => first | k_is | rfl)
    (case n_bool => first | k_is | rfl)
    (case n_list => first | k_is | rfl)
    (case n_len => first | k_is | rfl)
    (case n_all => first | k_is | rfl)
    (case n_range => first | k_is | rfl)
    (case n_sum => first | k_is | rfl)
    (case n_set => first | k_is | rfl)
    (case n_min => first | k_is | rfl)
    (case n_zip => first | k_is | rfl)
    (case n_sorted => first | k_is | rfl)
    (case n_enumerate => first | k_is | rfl)
    (case n_any => first | k_is | rfl)
    (case n_ValueError => first | k_is | rfl)
    (case c_MOST_FACES => first | k_is | rfl)
    (case c_GREATEST_FACE => first | k_is | rfl)
    (case c_MOST_PLACES => first | k_is | rfl)
    (case c_LEAST_RING => first | k_is | rfl)
    (case hn => first | k_is | rfl)
    (case ht => first | k_is | rfl)
    (case g_DiceError => first | k_is | rfl)
    (case x_DiceError => k_exc)
    (case k_DiceError => first | k_is | rfl)
    (case b_DiceError => first | k_is | rfl)
    (case t_DiceError => first | k_is | rfl)
    (case hg_DiceError => first | k_is | rfl)
    (case hk_DiceError => first | k_is | rfl)
    (case hd_DiceError => first | k_is | rfl)
    (case ha_DiceError => first | k_is | rfl)
    (case hm_DiceError => first | k_is | rfl)
    (case g_BadDie => first | k_is | rfl)
    (case x_BadDie => k_exc)
    (case k_BadDie => first | k_is | rfl)
    (case b_BadDie => first | k_is | rfl)
    (case t_BadDie => first | k_is | rfl)
    (case hg_BadDie => first | k_is | rfl)
    (case hk_BadDie => first | k_is | rfl)
    (case hd_BadDie => first | k_is | rfl)
    (case ha_BadDie => first | k_is | rfl)
    (case hm_BadDie => first | k_is | rfl)
    (case g_BadDice => first | k_is | rfl)
    (case x_BadDice => k_exc)
    (case k_BadDice => first | k_is | rfl)
    (case b_BadDice => first | k_is | rfl)
    (case t_BadDice => first | k_is | rfl)
    (case hg_BadDice => first | k_is | rfl)
    (case hk_BadDice => first | k_is | rfl)
    (case hd_BadDice => first | k_is | rfl)
    (case ha_BadDice => first | k_is | rfl)
    (case hm_BadDice => first | k_is | rfl)
    (case s_BadDie_DiceError => first | k_is | rfl)
    (case e_BadDie_DiceError => first | k_is | rfl)
    (case s_BadDie_BadDie => first | k_is | rfl)
    (case e_BadDie_BadDie => first | k_is | rfl)
    (case s_BadDie_BadDice => first | k_is | rfl)
    (case e_BadDie_BadDice => first | k_is | rfl)
    (case s_BadDice_DiceError => first | k_is | rfl)
    (case e_BadDice_DiceError => first | k_is | rfl)
    (case s_BadDice_BadDie => first | k_is | rfl)
    (case e_BadDice_BadDie => first | k_is | rfl)
    (case s_BadDice_BadDice => first | k_is | rfl)
    (case e_BadDice_BadDice => first | k_is | rfl)
    (case z_DiceError => first | k_is | rfl)
    (case v_DiceError => first | k_is | rfl)
    (case z_BadDie => first | k_is | rfl)
    (case v_BadDie => first | k_is | rfl)
    (case z_BadDice => first | k_is | rfl)
    (case v_BadDice => first | k_is | rfl)
    (case g_is_number => first | k_is | rfl)
    (case l_is_number => first | k_is | rfl)
    (case p_is_number => first | k_is | rfl)
    (case k_is_number => first | k_is | rfl)
    (case g_is_face => first | k_is | rfl)
    (case l_is_face => first | k_is | rfl)
    (case p_is_face => first | k_is | rfl)
    (case k_is_face => first | k_is | rfl)
    (case g_is_die => first | k_is | rfl)
    (case l_is_die => first | k_is | rfl)
    (case p_is_die => first | k_is | rfl)
    (case k_is_die => first | k_is | rfl)
    (case g_need_die => first | k_is | rfl)
    (case l_need_die => first | k_is | rfl)
    (case p_need_die => first | k_is | rfl)
    (case k_need_die => first | k_is | rfl)
    (case g_need_dice => first | k_is | rfl)
    (case l_need_dice => first | k_is | rfl)
    (case p_need_dice => first | k_is | rfl)
    (case k_need_dice => first | k_is | rfl)
    (case g_beats => first | k_is | rfl)
    (case l_beats => first | k_is | rfl)
    (case p_beats => first | k_is | rfl)
    (case k_beats => first | k_is | rfl)
    (case g_throws_above => first | k_is | rfl)
    (case l_throws_above => first | k_is | rfl)
    (case p_throws_above => first | k_is | rfl)
    (case k_throws_above => first | k_is | rfl)
    (case g_ring => first | k_is | rfl)
    (case l_ring => first | k_is | rfl)
    (case p_ring => first | k_is | rfl)
    (case k_ring => first | k_is | rfl)
    (case g_ranks => first | k_is | rfl)
    (case l_ranks => first | k_is | rfl)
    (case p_ranks => first | k_is | rfl)
    (case k_ranks => first | k_is | rfl)
    (case g_beaten_places => first | k_is | rfl)
    (case l_beaten_places => first | k_is | rfl)
    (case p_beaten_places => first | k_is | rfl)
    (case k_beaten_places => first | k_is | rfl)
    (case g_ring_from => first | k_is | rfl)
    (case l_ring_from => first | k_is | rfl)
    (case p_ring_from => first | k_is | rfl)
    (case k_ring_from => first | k_is | rfl)
    (case g_law_draw => first | k_is | rfl)
    (case l_law_draw => first | k_is | rfl)
    (case p_law_draw => first | k_is | rfl)
    (case k_law_draw => first | k_is | rfl)
    (case g_law_die => first | k_is | rfl)
    (case l_law_die => first | k_is | rfl)
    (case p_law_die => first | k_is | rfl)
    (case k_law_die => first | k_is | rfl)
    (case g_law_beats => first | k_is | rfl)
    (case l_law_beats => first | k_is | rfl)
    (case p_law_beats => first | k_is | rfl)
    (case k_law_beats => first | k_is | rfl)
    (case g_law_dice => first | k_is | rfl)
    (case l_law_dice => first | k_is | rfl)
    (case p_law_dice => first | k_is | rfl)
    (case k_law_dice => first | k_is | rfl)
    (case g_law_is_ring => first | k_is | rfl)
    (case l_law_is_ring => first | k_is | rfl)
    (case p_law_is_ring => first | k_is | rfl)
    (case k_law_is_ring => first | k_is | rfl)
    (case g_law_are_ranks => first | k_is | rfl)
    (case l_law_are_ranks => first | k_is | rfl)
    (case p_law_are_ranks => first | k_is | rfl)
    (case k_law_are_ranks => first | k_is | rfl)
    (case g_law_right => first | k_is | rfl)
    (case l_law_right => first | k_is | rfl)
    (case p_law_right => first | k_is | rfl)
    (case k_law_right => first | k_is | rfl)
    (case g_law => first | k_is | rfl)
    (case l_law => first | k_is | rfl)
    (case p_law => first | k_is | rfl)
    (case k_law => first | k_is | rfl)
