import PyProof.Rows.All
import Wide.All
import OpenK.AllK
import Wide.FinOn
import PyProof.ListMulRoad
import HandS.ForMost
import HandS.IsInst
import HandS.TupAny
import HandS.TupMul
import HandS.Star
import HandS.Wide
import HandS.Style
import HandS.TryOnly
import HandS.NoneIn
import HandS.Gcd
import KE.DatumOrd
import HandS.GenBody
import HandS.GenYield
import HandS.GenList
import HandS.FStr
import HandS.ForExc
import HandS.ExcField
import KE.KExcInit
import HandS.TryMany
import HandS.Lambda
import HandS.CallLocal
import HandS.Property
import HandS.OwnEq
import KE.KCallOwn
import KE.KOwnIter
import OpenK.KOps
import HandS.Conv
import HandS.Zip
import HandS.Walk
import HandS.OwnIter
import HandS.IterNext
import HandS.Strs
import HandS.SetBool
import HandS.DictComp
import HandS.SetKeys
import KE.GoesEnum
import HandS.Deep
import HandS.WordsDict
import HandS.Small
import HandS.More
import HandS.ExcIs
import HandS.EndOwn
import PySem.Challenge.RW_noroadback_k35_whole_pieces_and_beats_of
set_option Elab.async false
set_option linter.all false
set_option maxRecDepth 100000
set_option maxHeartbeats 4000000
/-! Words in which an entry and its opposite strike each other out: what is left, and what goes along with it. -/
namespace Fr
/-- the entry e laid on a pile (its top first) -/
def push (e : Int) : List Int → List Int
  | [] => [e]
  | x :: t => if x = -e then t else e :: x :: t
def act (w s : List Int) : List Int := w.foldl (fun s e => push e s) s
def red (w : List Int) : List Int := (act w []).reverse
def Nf : List Int → Prop
  | [] => True
  | [_] => True
  | x :: y :: t => x ≠ -y ∧ Nf (y :: t)
def opp (w : List Int) : List Int := (w.map fun e => -e).reverse
def rep (w : List Int) : Nat → List Int
  | 0 => []
  | n + 1 => rep w n ++ w

theorem push_eq {e x : Int} {t : List Int} (h : x = -e) : push e (x :: t) = t := by
  show (if x = -e then t else e :: x :: t) = t
  rw [if_pos h]
theorem push_on {e x : Int} {t : List Int} (h : ¬ x = -e) : push e (x :: t) = e :: x :: t := by
  show (if x = -e then t else e :: x :: t) = e :: x :: t
  rw [if_neg h]
theorem Nf.tail {x : Int} {t : List Int} (h : Nf (x :: t)) : Nf t := by
  cases t with
  | nil => exact True.intro
  | cons y t => exact h.2
theorem push_nf {e : Int} {s : List Int} (h : Nf s) : Nf (push e s) := by
  cases s with
  | nil => exact True.intro
  | cons x t =>
    by_cases hx : x = -e
    · rw [push_eq hx]; exact h.tail
    · rw [push_on hx]; exact ⟨fun q => hx (by omega), h⟩
theorem push_back {e : Int} {s : List Int} (h : Nf s) : push (-e) (push e s) = s := by
  cases s with
  | nil => exact push_eq (t := []) (by omega)
  | cons x t =>
    by_cases hx : x = -e
    · have h1 : push e (x :: t) = t := push_eq hx
      rw [h1]
      cases t with
      | nil => show [-e] = [x]; rw [hx]
      | cons y t =>
        have hn : ¬ y = - -e := fun q => h.1 (by omega)
        show (if y = - -e then t else -e :: y :: t) = x :: y :: t
        rw [if_neg hn, hx]
    · have h1 : push e (x :: t) = e :: x :: t := push_on hx
      rw [h1]
      show (if e = - -e then x :: t else _) = x :: t
      rw [if_pos (by omega)]
theorem push_fwd {e : Int} {s : List Int} (h : Nf s) : push e (push (-e) s) = s := by
  have := push_back (e := -e) h
  rwa [Int.neg_neg] at this
theorem act_nil (s : List Int) : act [] s = s := rfl
theorem act_cons (e : Int) (w s : List Int) : act (e :: w) s = act w (push e s) := rfl
theorem act_app (a b s : List Int) : act (a ++ b) s = act b (act a s) := List.foldl_append
theorem act_nf : ∀ (w : List Int) {s : List Int}, Nf s → Nf (act w s)
  | [], _, h => h
  | e :: w, _, h => act_nf w (push_nf h)
theorem opp_nil : opp [] = [] := rfl
theorem opp_cons (e : Int) (w : List Int) : opp (e :: w) = opp w ++ [-e] := by unfold opp; rw [List.map_cons, List.reverse_cons]
theorem opp_app (a b : List Int) : opp (a ++ b) = opp b ++ opp a := by unfold opp; rw [List.map_append, List.reverse_append]
theorem opp_opp (w : List Int) : opp (opp w) = w := by
  induction w with
  | nil => rfl
  | cons e w ih => rw [opp_cons, opp_app, ih]; show [- -e] ++ w = e :: w; rw [Int.neg_neg]; rfl
theorem opp_len (w : List Int) : (opp w).length = w.length := by unfold opp; rw [List.length_reverse, List.length_map]
theorem act_opp : ∀ (w : List Int) {s : List Int}, Nf s → act (opp w) (act w s) = s
  | [], _, _ => rfl
  | e :: w, s, h => by
    rw [opp_cons, act_app]
    show push (-e) (act (opp w) (act w (push e s))) = s
    rw [act_opp w (push_nf h)]
    exact push_back h
theorem opp_act (w : List Int) {s : List Int} (h : Nf s) : act w (act (opp w) s) = s := by
  have := act_opp (opp w) h
  rwa [opp_opp] at this
theorem snoc_ind {P : List Int → Prop} (h0 : P []) (h1 : ∀ w e, P w → P (w ++ [e])) (w : List Int) : P w := by
  have h : ∀ v : List Int, P v.reverse := fun v => by
    induction v with
    | nil => exact h0
    | cons e v ih => rw [List.reverse_cons]; exact h1 _ _ ih
  have := h w.reverse
  rwa [List.reverse_reverse] at this
theorem red_snoc (w : List Int) (e : Int) : red (w ++ [e]) = (push e (act w [])).reverse := by unfold red; rw [act_app]; rfl
/-- what is left acts as the whole -/
theorem act_red (w : List Int) : ∀ {s : List Int}, Nf s → act (red w) s = act w s := by
  refine snoc_ind (P := fun w => ∀ {s : List Int}, Nf s → act (red w) s = act w s) (fun _ => rfl) (fun w e ih => ?_) w
  intro s h
  rw [red_snoc, act_app]
  show act (push e (act w [])).reverse s = push e (act w s)
  rw [← ih h]
  unfold red
  cases q : act w [] with
  | nil => rfl
  | cons x t =>
    by_cases hx : x = -e
    · have h1 : push e (x :: t) = t := push_eq hx
      rw [h1, List.reverse_cons, act_app, hx]
      show act t.reverse s = push e (push (-e) (act t.reverse s))
      rw [push_fwd (act_nf _ h)]
    · have h1 : push e (x :: t) = e :: x :: t := push_on hx
      rw [h1, List.reverse_cons, act_app]
      rfl
theorem Nf.of_act (w : List Int) : Nf (act w []) := act_nf w (s := []) True.intro
/-- a bare row with a bare end: the two ends as they meet -/
theorem nf_snoc2 : ∀ {w : List Int} {x y : Int}, Nf (w ++ [x]) → x ≠ -y → Nf (w ++ [x, y])
  | [], _, _, _, h => ⟨h, True.intro⟩
  | [a], _, _, h1, h => ⟨h1.1, h, True.intro⟩
  | a :: b :: w, _, _, h1, h => ⟨h1.1, nf_snoc2 (w := b :: w) h1.2 h⟩
theorem nf_rev {w : List Int} (h : Nf w) : Nf w.reverse := by
  induction w with
  | nil => exact True.intro
  | cons x w ih =>
    cases w with
    | nil => exact True.intro
    | cons y w =>
      rw [List.reverse_cons, List.reverse_cons, List.append_assoc]
      have h2 := ih h.2
      rw [List.reverse_cons] at h2
      exact nf_snoc2 h2 fun q => h.1 (by omega)
theorem red_nf (w : List Int) : Nf (red w) := nf_rev (Nf.of_act w)
theorem nf_front : ∀ {a b : List Int}, Nf (a ++ b) → Nf a
  | [], _, _ => True.intro
  | [_], _, _ => True.intro
  | _ :: y :: a, _, h => ⟨h.1, nf_front (a := y :: a) h.2⟩
theorem nf_back : ∀ {a b : List Int}, Nf (a ++ b) → Nf b
  | [], _, h => h
  | _ :: _, _, h => nf_back h.tail
theorem act_bare (w : List Int) : Nf w → act w [] = w.reverse := by
  refine snoc_ind (P := fun w => Nf w → act w [] = w.reverse) (fun _ => rfl) (fun w e ih h => ?_) w
  rw [act_app, ih (nf_front h), List.reverse_append]
  show push e w.reverse = [e].reverse ++ w.reverse
  cases q : w.reverse with
  | nil => rfl
  | cons x t =>
    have hw : w = t.reverse ++ [x] := by
      have := congrArg List.reverse q
      rwa [List.reverse_reverse, List.reverse_cons] at this
    rw [hw, List.append_assoc] at h
    have h2 : Nf [x, e] := nf_back h
    show (if x = -e then t else e :: x :: t) = e :: x :: t
    rw [if_neg h2.1]
theorem red_id {w : List Int} (h : Nf w) : red w = w := by unfold red; rw [act_bare w h, List.reverse_reverse]
theorem red_congr {a b : List Int} (h : act a [] = act b []) : red a = red b := by unfold red; rw [h]
theorem red_app_l (a b : List Int) : red (red a ++ b) = red (a ++ b) := red_congr (by rw [act_app, act_app, act_red a (s := []) True.intro])
theorem red_app_r (a b : List Int) : red (a ++ red b) = red (a ++ b) := red_congr (by rw [act_app, act_app, act_red b (Nf.of_act a)])
theorem red_red (a : List Int) : red (red a) = red a := red_id (red_nf a)
theorem red_opp_self (w : List Int) : red (w ++ opp w) = [] := by
  unfold red
  rw [act_app, act_opp w (s := []) True.intro]
  rfl
theorem red_opp (x : List Int) : red (opp x) = red (opp (red x)) := by
  refine red_congr ?_
  have n : Nf (act (opp (red x)) []) := act_nf _ (s := []) True.intro
  have h1 : act x (act (opp (red x)) []) = [] := by
    rw [← act_red x n]
    exact opp_act (red x) (s := []) True.intro
  have h2 := act_opp x n
  rw [h1] at h2
  exact h2
theorem nf_map_neg : ∀ {w : List Int}, Nf w → Nf (w.map fun e => -e)
  | [], _ => True.intro
  | [_], _ => True.intro
  | x :: y :: w, h => ⟨fun q => h.1 (by have q2 : -x = - -y := q; omega), nf_map_neg (w := y :: w) h.2⟩
theorem nf_opp {w : List Int} (h : Nf w) : Nf (opp w) := nf_rev (nf_map_neg h)
theorem opp_red (x : List Int) : opp (red x) = red (opp x) := by rw [red_opp, red_id (nf_opp (red_nf x))]
/-- a struck pair -/
theorem red_strike (a b : List Int) (x y : Int) (h : x = -y) : red (a ++ x :: y :: b) = red (a ++ b) := red_congr (by
  rw [act_app, act_app, act_cons, act_cons]
  have e : y = -x := by omega
  rw [e, push_back (Nf.of_act a)])

/-! powers -/
theorem rep_len (w : List Int) : ∀ n, (rep w n).length = n * w.length
  | 0 => by simp [rep]
  | n + 1 => by
    show (rep w n ++ w).length = _
    rw [List.length_append, rep_len w n, Nat.succ_mul]
theorem rep_nil : ∀ n, rep [] n = []
  | 0 => rfl
  | n + 1 => by show rep [] n ++ [] = []; rw [rep_nil n]; rfl
theorem rep_front (w : List Int) : ∀ n, rep w (n + 1) = w ++ rep w n
  | 0 => by show [] ++ w = w ++ []; simp
  | n + 1 => by
    show rep w (n + 1) ++ w = w ++ (rep w n ++ w)
    rw [rep_front w n, List.append_assoc]
theorem opp_rep (w : List Int) : ∀ n, opp (rep w n) = rep (opp w) n
  | 0 => rfl
  | n + 1 => by
    show opp (rep w n ++ w) = rep (opp w) (n + 1)
    rw [opp_app, opp_rep w n, rep_front]
theorem flat_rep (w : List Int) : ∀ n, (List.replicate n w).flatten = rep w n
  | 0 => rfl
  | n + 1 => by
    rw [List.replicate_succ, List.flatten_cons, flat_rep w n, rep_front]
/-- the power of a word for a number of any sign, not yet bare -/
def pw (w : List Int) (m : Int) : List Int := if m < 0 then rep (opp w) (-m).toNat else rep w m.toNat
theorem pw_succ (w : List Int) (m : Int) {s : List Int} (h : Nf s) : act (pw w (m + 1)) s = act w (act (pw w m) s) := by
  unfold pw
  by_cases h0 : m < 0
  · rw [if_pos h0]
    obtain ⟨k, hk⟩ : ∃ k : Nat, (-m).toNat = k + 1 := ⟨(-m).toNat - 1, by omega⟩
    rw [hk]
    show _ = act w (act (rep (opp w) k ++ opp w) s)
    rw [act_app, opp_act w (act_nf _ h)]
    by_cases h1 : m + 1 < 0
    · rw [if_pos h1]
      have : (-(m + 1)).toNat = k := by omega
      rw [this]
    · rw [if_neg h1]
      have e1 : (m + 1).toNat = 0 := by omega
      have e2 : k = 0 := by omega
      rw [e1, e2]
      rfl
  · rw [if_neg h0, if_neg (by omega : ¬ m + 1 < 0)]
    have : (m + 1).toNat = m.toNat + 1 := by omega
    rw [this]
    show act (rep w m.toNat ++ w) s = _
    rw [act_app]
theorem pw_add (w : List Int) (m : Int) : ∀ (n : Nat) {s : List Int}, Nf s → act (pw w (m + n)) s = act (rep w n) (act (pw w m) s)
  | 0, s, h => by
    have : m + ((0 : Nat) : Int) = m := by omega
    rw [this]
    rfl
  | n + 1, s, h => by
    have : m + ((n + 1 : Nat) : Int) = (m + n) + 1 := by omega
    rw [this, pw_succ w (m + n) h, pw_add w m n h]
    show _ = act (rep w n ++ w) _
    rw [act_app]
theorem red_pw_add (w : List Int) (m : Int) (n : Nat) : red (pw w (m + n)) = red (red (pw w m) ++ red (pw w (n : Int))) := by
  rw [red_app_l, red_app_r]
  refine red_congr ?_
  rw [pw_add w m n (s := []) True.intro, act_app]
  unfold pw
  rw [if_neg (by omega : ¬ (n : Int) < 0), Int.toNat_natCast]
theorem nf_join : ∀ {a b : List Int}, Nf a → Nf b → (∀ x y, a.getLast? = some x → b.head? = some y → x ≠ -y) → Nf (a ++ b)
  | [], _, _, hb, _ => hb
  | [x], [], _, _, _ => True.intro
  | [x], y :: b, _, hb, h => ⟨h x y rfl rfl, hb⟩
  | x :: z :: a, b, ha, hb, h => ⟨ha.1, nf_join (a := z :: a) ha.2 hb fun u v hu hv => h u v (by rw [List.getLast?_cons_cons]; exact hu) hv⟩
theorem last_rep {w : List Int} {x : Int} (h : w.getLast? = some x) (n : Nat) : (rep w (n + 1)).getLast? = some x := by
  show (rep w n ++ w).getLast? = some x
  rw [List.getLast?_append, h]
  rfl
theorem head_rep {w : List Int} {x : Int} (h : w.head? = some x) (n : Nat) : (rep w (n + 1)).head? = some x := by
  rw [rep_front, List.head?_append, h]
  rfl
theorem nf_rep {w : List Int} (h : Nf w) (hj : ∀ x y, w.getLast? = some x → w.head? = some y → x ≠ -y) : ∀ n, Nf (rep w n)
  | 0 => True.intro
  | n + 1 => by
    show Nf (rep w n ++ w)
    refine nf_join (nf_rep h hj n) h fun x y hx hy => ?_
    cases n with
    | zero => cases hx
    | succ n =>
      cases q : w.getLast? with
      | none =>
        have : w = [] := List.getLast?_eq_none_iff.mp q
        rw [this] at hy
        cases hy
      | some z =>
        rw [last_rep q n] at hx
        cases hx
        exact hj x y q hy
/-- a bare word in its two parts: its power as the program writes it -/
theorem red_pow {c m : List Int} (h : Nf (c ++ m ++ opp c)) (hm : m ≠ []) (hj : ∀ x y, m.getLast? = some x → m.head? = some y → x ≠ -y) (n : Nat) :
    red (rep (c ++ m ++ opp c) (n + 1)) = c ++ rep m (n + 1) ++ opp c := by
  have a1 : ∀ (n : Nat) {s : List Int}, Nf s → act (rep (c ++ m ++ opp c) n) s = act (c ++ rep m n ++ opp c) s := fun n => by
    induction n with
    | zero =>
      intro s hs
      show s = act (c ++ [] ++ opp c) s
      rw [List.append_nil, act_app, act_opp c hs]
    | succ n ih =>
      intro s hs
      show act (rep (c ++ m ++ opp c) n ++ (c ++ m ++ opp c)) s = act (c ++ (rep m n ++ m) ++ opp c) s
      rw [act_app, ih hs]
      simp only [act_app]
      rw [opp_act c (act_nf _ (act_nf _ hs))]
  have e : red (rep (c ++ m ++ opp c) (n + 1)) = red (c ++ rep m (n + 1) ++ opp c) := red_congr (a1 (n + 1) (s := []) True.intro)
  rw [e]
  refine red_id ?_
  have hcm : Nf (c ++ m) := nf_front h
  have hm1 : Nf m := nf_back hcm
  obtain ⟨z, hz⟩ : ∃ z, m.getLast? = some z := by
    cases q : m.getLast? with
    | none => exact absurd (List.getLast?_eq_none_iff.mp q) hm
    | some z => exact ⟨z, rfl⟩
  obtain ⟨u, hu⟩ : ∃ u, m.head? = some u := by
    cases m with
    | nil => exact absurd rfl hm
    | cons a b => exact ⟨a, rfl⟩
  have jn : ∀ {a b : List Int} {x y : Int}, Nf (a ++ b) → a.getLast? = some x → b.head? = some y → x ≠ -y := fun {a b x y} hab hx hy => by
    obtain ⟨a', ha⟩ : ∃ a', a = a' ++ [x] := by
      have hne : a ≠ [] := fun q => by rw [q] at hx; cases hx
      refine ⟨a.dropLast, ?_⟩
      rw [List.getLast?_eq_some_getLast hne] at hx
      have := List.dropLast_concat_getLast hne
      rw [Option.some.inj hx] at this
      exact this.symm
    obtain ⟨b', hb⟩ : ∃ b', b = y :: b' := by
      cases b with
      | nil => cases hy
      | cons p q => cases hy; exact ⟨q, rfl⟩
    rw [ha, hb, List.append_assoc] at hab
    have h2 : Nf ([x] ++ y :: b') := nf_back hab
    exact h2.1
  refine nf_join (nf_join (nf_front hcm) (nf_rep hm1 hj (n + 1)) fun x y hx hy => ?_) (nf_back h) fun x y hx hy => ?_
  · rw [head_rep hu n] at hy
    cases hy
    exact jn hcm hx hu
  · rw [List.getLast?_append, last_rep hz n] at hx
    cases hx
    exact jn h (by rw [List.getLast?_append, hz]; rfl) hy
end Fr

/-! rules of my own: a call by a positional promise, great powers, a tuple times a number, a tuple turned round -/
namespace N0
open PySem PySem.Spec PyProof.Rows L2 HT

structure Cl (P : Program) (w : World) (K : PySem.W.Frag) (mg : Str → Option Value) (base : Heap) (k : Nat) (x : Str) (sp : Sp) : Prop where
  ex : ∃ f : Addr, FnR P w K mg base CX0 k f sp ∧ mg x = some (.ref f) ∧ PySem.W.keepIn K (.ref f) = true
abbrev tFn (sp : Sp) (t : TA) : TE := fun σ H Q => t σ H fun vs H1 => sp vs H1 Q E0
section
variable {X : Cx} {x : Str} {k j : Nat} {sp : Sp} {e : Expr} {es : List Expr} {t : TA} {p pos : Pos}
theorem pe_f (c : Cl X.prog X.w X.K X.mg X.base k x sp) (hr : Room j X.A) (hk : k ≤ j) (hg : Gl X x) (ha : PA X (e :: es) t) (hdb : (x == ("__debug__" : Str)) = false := by decide)
    (he : starEach (e :: es) X.env = (false, eval e X.env) :: starEach es X.env := by rfl) (hpl : (backTo pos (starEach es X.env)).any (·.1) = false := by rfl) : PE X (.Call (.Name x p) (e :: es) [] pos) (tFn sp t) := by
  obtain ⟨f, F, hm, kp⟩ := c.ex
  refine ⟨fun pins s σ H Q I h => ?_⟩
  refine wpAny_Call_Name_kw (ld_glob I hg hm ?_ hdb)
  refine PySem.W.callWith_K (h₀ := X.base) I.ok.mod.kin kp (thn (ha.run pos pins s σ H _ I h) fun us s1 ⟨vs, H1, I1, r, q⟩ => ⟨I1.kIn, ?_⟩) he hpl
  exact wpAny_call (run_fnR F (hr.mono hk) pass0 I1 r q)
end
section
variable {P : Program} {w : World} {K : PySem.W.Frag} {mg : Str → Option Value} {base : Heap} {k : Nat} {x : Str} {sp sp' : Sp} {f : Addr} {fd : FuncData} {ps : List Str}
theorem cl_of (G : FnOk P w K mg base CX0 k f fd ps sp) (hm : mg x = some (.ref f)) (kp : PySem.W.keepIn K (.ref f) = true) (hb : Binds K fd ps []) : Cl P w K mg base k x sp :=
  ⟨f, (G.raw hb .nil).imp fun vs H Q E h => by rw [List.append_nil]; exact h, hm, kp⟩
theorem Cl.imp (c : Cl P w K mg base k x sp) (h : ∀ vs H Q E, sp' vs H Q E → sp vs H Q E) : Cl P w K mg base k x sp' := by
  obtain ⟨f, F, hm, kp⟩ := c.ex
  exact ⟨f, F.imp h, hm, kp⟩
end
def CPowG (i j : Int) : Prop := 0 ≤ j ∧ (Builtin.Int.intBits i : Int) * j ≤ 2 ^ 27
section
variable {X : Cx}
theorem op_powG : OpR X (binaryOp .Pow) (rI CPowG fun i j => .int (i ^ j.toNat)) := opI fun _ _ _ _ _ _ _ hc q => PyProof.Rows.pow_int hc.1 hc.2 q

/-! a tuple turned round -/
theorem pick_back (xs : Array Value) : ((List.range xs.size).filterMap fun (m : Nat) => xs[(((xs.size : Int) - 1) + (m : Int) * (-1)).toNat]?).toArray = xs.toList.reverse.toArray := by
  congr 1
  have h : ∀ m ∈ List.range xs.size, xs[(((xs.size : Int) - 1) + (m : Int) * (-1)).toNat]? = some (xs.toList.reverse.getD m .none) := fun m hm => by
    have hm := List.mem_range.mp hm
    have e : (((xs.size : Int) - 1) + (m : Int) * (-1)).toNat = xs.size - 1 - m := by omega
    rw [e, List.getD_eq_getElem?_getD, List.getElem?_reverse (by rw [Array.length_toList]; exact hm), Array.length_toList, Array.getElem?_toList, Array.getElem?_eq_getElem (by omega)]
    rfl
  have h2 : ∀ l : List Nat, (∀ m ∈ l, xs[(((xs.size : Int) - 1) + (m : Int) * (-1)).toNat]? = some (xs.toList.reverse.getD m .none)) → l.filterMap (fun (m : Nat) => xs[(((xs.size : Int) - 1) + (m : Int) * (-1)).toNat]?) = l.map fun m => xs.toList.reverse.getD m .none := fun l => by
    induction l with
    | nil => intro _; rfl
    | cons a l ih => intro hl; rw [List.filterMap_cons, hl a List.mem_cons_self, List.map_cons, ih fun m hm => hl m (List.mem_cons_of_mem _ hm)]
  rw [h2 _ h]
  refine List.ext_getElem? fun i => ?_
  rw [List.getElem?_map]
  by_cases hi : i < xs.size
  · rw [List.getElem?_range hi]
    show some (xs.toList.reverse.getD i .none) = _
    rw [List.getD_eq_getElem?_getD, List.getElem?_eq_getElem (by rw [List.length_reverse, Array.length_toList]; exact hi)]
    rfl
  · rw [List.getElem?_eq_none (by rw [List.length_range]; omega), List.getElem?_eq_none (by rw [List.length_reverse, Array.length_toList]; omega)]
    rfl
theorem back_applied {prog : Program} {w : World} {A : Around} {E : Value → Shared → Prop} {s : Shared} {sl : Addr} {vs : Value} {n : Nat} {Q : Int × Int × Nat → Shared → Prop} (hs : s.heap.IsSliceOf sl .none .none vs) (pv : IsPart vs (some (-1)))
    (h : Q (((n : Int) - 1), -1, n) s) : wpAny (model prog w) A (Builtin.Slice.sliceApplied (.ref sl) (pure (n : Int))) Q E s := by
  obtain ⟨os, ho, hcl, hda⟩ := id hs
  unfold Builtin.Slice.sliceApplied Builtin.Slice.sliceFields
  refine wpAny_bind (wpAny_bind (wpAny_field ho hda (x := .none) rfl (wpAny_bind (wpAny_field ho hda (x := .none) rfl (wpAny_bind (wpAny_field ho hda (x := vs) rfl (wpAny_pure ?_)))))))
  refine wpAny_bind (slicePart_ pv ?_)
  show wpAny _ _ (if ((-1 : Int) == 0) = true then _ else _) _ _ s
  rw [if_neg (by decide)]
  refine wpAny_bind (slicePart_none (wpAny_bind (slicePart_none (wpAny_bind (wpAny_pure ?_)))))
  have e1 : Builtin.Slice.sliceAdjust none none (-1) (n : Int) = ((n : Int) - 1, -1) := by
    unfold Builtin.Slice.sliceAdjust
    simp
  have e2 : Builtin.Slice.slicePlaces ((n : Int) - 1) (-1) (-1) = n := by
    unfold Builtin.Slice.slicePlaces
    simp
    omega
  show wpAny _ _ (match Builtin.Slice.sliceAdjust none none (-1) (n : Int) with | (a, b) => pure (a, (-1 : Int), Builtin.Slice.slicePlaces a b (-1))) _ _ s
  rw [e1]
  show wpAny _ _ (pure ((n : Int) - 1, (-1 : Int), Builtin.Slice.slicePlaces ((n : Int) - 1) (-1) (-1))) _ _ s
  rw [e2]
  exact wpAny_pure h
/-- t * k where t is empty or k is 1: t itself -/
theorem tup_mul_same (l : Addr) (items : Array Value) (n : Nat) (dd : Option Addr) (sl : Array (Option Value)) (x : Int) (u : Tok) (z0 : (decide (x < -(2 ^ 63)) || decide (x ≥ 2 ^ 63)) = false) (z1 : (items.isEmpty || x == 1) = true) :
    Meets (Builtin.«tuple.__mul__» ⟨[.ref l, .int x u], []⟩) (fun _ R s => s.heap.get? l = some { cls := .type "tuple", dict := dd, data := .seq items n, slots := sl } ∧ R (.ok (.ret (Value.ref l))) s) :=
  .of_wp fun prog w A R s h => by
    obtain ⟨hp, g, d, tk, os⟩ := s
    obtain ⟨hl, h⟩ := h
    have f1 := AutoSeq1.idx_int
    wp_walk using wpAny_loadPart' hl
    repeat (first
      | (refine wpAny_ite_false (decide_eq_false (by rw [z0]; exact Bool.false_ne_true)) ?_; wp_walk using wpAny_loadPart' hl)
      | (refine wpAny_ite_true (decide_eq_true z1) ?_; wp_walk using wpAny_loadPart' hl))
    exact ⟨_, rfl, h⟩
/-- t * k, k from 1 to 1000, t any tuple of at most 1000 -/
def rRepA (K : PySem.W.Frag) : R2 := fun x y H Q => ∃ l k xs, x = .ref l ∧ y = .int k ∧ SqT K H l xs ∧ 1 ≤ k ∧ k ≤ 1000 ∧ xs.length ≤ 1000 ∧
  (xs = [] ∨ k = 1 → Q (.ref l) H) ∧ (xs ≠ [] → 2 ≤ k → ∀ p, H p = none → Q (.ref p) (upd H p (.tup (List.replicate k.toNat xs).flatten)))
theorem op_repA : OpR X (binaryOp .Mult) (rRepA X.K) := by
  intro pn s sg H x y v u Q I rx ry h
  obtain ⟨l, k, xs, ex, ey, hT, k1, k2, hz, q1, q2⟩ := h
  by_cases hc : xs = [] ∨ k = 1
  · subst ex ey
    have q := q1 hc
    cases rx
    obtain ⟨t, rfl⟩ := ry
    obtain ⟨its, r, ⟨⟨cls, dd, data, sl⟩, ho, hcl, n, hd⟩, _⟩ := I.tuple hT
    simp only at hcl hd
    subst hcl hd
    have z0 : (decide (k < -(2 ^ 63)) || decide (k ≥ 2 ^ 63)) = false := by
      rw [decide_eq_false (by omega), decide_eq_false (by omega)] <;> rfl
    have z1 : (its.toArray.isEmpty || k == 1) = true := by
      rcases hc with e | e
      · subst e
        cases r
        rfl
      · rw [e, Bool.or_eq_true]
        exact .inr rfl
    exact wpAny_binaryOp_repeat_ref (T := "tuple") (U := "int") (by decide) ⟨_, ho, rfl⟩ (fun s' => typeIs_int s' k t) noFill_tuple_mul F.fills_int_mul F.slot_int_rmul repeat_tuple F.slot_int_index.lookup
      (call_meets F.slot_int_rmul (typeIs_int s k t) F.entry_int_rmul (F.args_int_rmul_2 _ _) (int_rmul_tuple k t l its.toArray n dd sl)
        ⟨ho, rfl, ⟨_, ho, rfl⟩, call_meets F.slot_tuple_mul ⟨_, ho, rfl⟩ F.entry_tuple_mul (F.args_tuple_mul_2 _ _) (tup_mul_same l its.toArray n dd sl k t z0 z1) ⟨ho, ⟨.ref l, H, I, rfl, q⟩⟩⟩)
  · have hn : xs ≠ [] := fun e => hc (.inl e)
    have h2 : k ≠ 1 := fun e => hc (.inr e)
    exact op_repT pn s sg H x y v u Q I rx ry ⟨l, k, xs, ex, ey, hT, hn, by omega, k2, hz, q2 hn (by omega)⟩

/-! t[::-1] -/
theorem tup_back {prog : Program} {w : World} {A : Around} {E : Value → Shared → Prop} {s : Shared} {t sl : Addr} {items : Array Value} {vs : Value} {Q : Value → Shared → Prop} (ht : IsTup s.heap t items) (hs : s.heap.IsSliceOf sl .none .none vs) (pv : IsPart vs (some (-1)))
    (h : Q (.ref s.heap.objs.size) { s with heap := s.heap.push { cls := .type "tuple", data := .seq items.toList.reverse.toArray } }) (hz : items.size ≤ sizeLine) : wpAny (model prog w) A (getItem (.ref t) (.ref sl)) Q E s := by
  have fit : sizeOk (.seq items.toList.reverse.toArray) := by
    show items.toList.reverse.toArray.size ≤ sizeLine
    rw [List.size_toArray, List.length_reverse, Array.length_toList]
    exact hz
  obtain ⟨os, ho, hcl, hda⟩ := id hs
  have hTy : s.TypeIs (.ref sl) "slice" := ⟨os, ho, hcl⟩
  unfold getItem
  try with_reducible refine wpAny_holding ?_
  first | refine wpAny_bind (wpAny_pure ?_) | skip
  refine wpAny_bind (wpAny_sequenceKey ht.typeIs (by decide) ?_)
  refine wpAny_bind (wpAny_callSpecial?_slot (name := Str.ofString "__getitem__") ht.typeIs PyProof.Rows.slot_tuple_getitem (wpAny_call_entry PyProof.Rows.slot_tuple_getitem ht.typeIs entry_tuple_getitem ?_ (args_tuple_getitem _ _)))
  show wpAny _ _ (Builtin.Tuple.tupleItemsOf (.ref t) >>= _) _ _ s
  refine wpAny_bind (tupleItemsOf_ ht (wpAny_bind (wpAny_typeOf hTy ?_)))
  rw [if_pos (by decide)]
  refine wpAny_bind (back_applied hs pv ?_)
  have hno : ¬ ((((items.size : Int) - 1) == 0 && (-1 : Int) == 1 && items.size == items.size) = true) := by
    rw [show ((-1 : Int) == 1) = false from rfl, Bool.and_false, Bool.false_and]
    exact Bool.false_ne_true
  show wpAny _ _ (if (((items.size : Int) - 1) == 0 && (-1 : Int) == 1 && items.size == items.size) = true then _ else _) _ _ s
  rw [if_neg hno, pick_back]
  first
    | exact wpAny_bind (m := Builtin.Tuple.tupleExact _) (wpAny_newObj_type (wpAny_pure ⟨_, rfl, wpAny_pure h⟩) fit)
    | exact wpAny_bind (m := Builtin.Tuple.tupleExact _) (wpAny_newObj_type (wpAny_bind (wpAny_pure (wpAny_pure ⟨_, rfl, wpAny_pure h⟩))) fit)
    | exact wpAny_bind (wpAny_bind (m := Builtin.Tuple.tupleExact _) (wpAny_newObj_type (wpAny_pure (wpAny_pure ⟨_, rfl, wpAny_pure h⟩)) fit))
    | exact wpAny_bind (wpAny_bind (m := Builtin.Tuple.tupleExact _) (wpAny_newObj_type (wpAny_pure ⟨_, rfl, wpAny_pure h⟩) fit))
def tRevT (K : PySem.W.Frag) (te : TE) : TE := fun σ H Q => te σ H fun x H1 => ∃ a xs, x = .ref a ∧ SqT K H1 a xs ∧ ∀ p, H1 p = none → Q (.ref p) (upd H1 p (.tup xs.reverse))
theorem pe_revT {e : Expr} {te : TE} {k : Nat} {p1 p2 p3 pos : Pos} (he : PE X e te) : PE X (.Subscript e (.Slice none none (some (.UnaryOp .USub (.Constant (.int 1) k p1) p2)) p3) pos) (tRevT X.K te) := by
  refine ⟨fun pn s sg H Q I h => ?_⟩
  refine Subscript_ (thn (he.run pn s sg H _ I h) fun v s1 ⟨x, H1, I1, r1, q1⟩ => ?_)
  obtain ⟨a, xs, ex, hx, q⟩ := q1
  subst ex
  cases r1
  have hst : PO X (some (.UnaryOp .USub (.Constant (.int 1) k p1) p2)) (tPart (tUn (rU fun i => .int (-i)) (tC (.int 1)))) := po_some (pe_un un_neg pe_int)
  refine wpAny_Slice (thn (po_none.run pn s1 sg H1 (fun o H2 => o = none ∧ H2 = H1) I1 ⟨rfl, rfl⟩) fun vl s2 ⟨l, H2, I2, pl, el, e2⟩ => ?_)
  subst el e2
  refine thn (po_none.run pn s2 sg H2 (fun o H3 => o = none ∧ H3 = H2) I2 ⟨rfl, rfl⟩) fun vu s3 ⟨u, H3, I3, pu, eu, e3⟩ => ?_
  subst eu e3
  refine thn (hst.run pn s3 sg H3 (fun o H4 => o = some (-1) ∧ H4 = H3) I3 ⟨1, rfl, -1, rfl, rfl, rfl⟩) fun vs s4 ⟨o, H4, I4, ps, eo, e4⟩ => ?_
  subst eo e4
  cases pl
  cases pu
  have I5 : Inv X pn sg H4 { s4 with heap := s4.heap.push { cls := .type "slice", data := .fields #[.none, .none, vs] } } := I4.kept (t' := s4.toks) fun b ob q => Heap.get?_push_of_some _ q
  obtain ⟨its, r, ht, hz⟩ := I5.tuple hx
  have hlen := r.length
  show wpAny (model X.prog X.w) X.A (subscriptTail e (.Slice none none (some (.UnaryOp .USub (.Constant (.int 1) k p1) p2)) p3) (.ref a) (.ref s4.heap.objs.size)) (EP X pn sg Q) X.xe { s4 with heap := s4.heap.push { cls := .type "slice", data := .fields #[.none, .none, vs] } }
  refine tail_any (ops := [.ref a, .ref s4.heap.objs.size]) ht.typeIs (PyProof.Rows.slot_tuple_getitem.lookup) ?_ (by with_unfolding_all rfl)
  refine tup_back ht (Heap.IsSliceOf.new _ .none .none vs) ps ?_ (by rw [List.size_toArray]; omega)
  refine ⟨.ref _, _, I5.laid (t' := s4.toks) (o := .tup xs.reverse) (fun b ob q => Heap.get?_push_of_some _ q) (Nat.le_refl _) ?_, rfl, q _ (I5.hok.fresh (Nat.le_refl _))⟩
  exact ⟨by rw [List.length_reverse]; exact hz, _, r.reverse, IsTup.new _ _⟩
end
end N0
namespace N0
open PySem
theorem bo_len : bootBuiltins "len" = some (.builtin "len") := by decide +kernel
theorem bo_abs : bootBuiltins "abs" = some (.builtin "abs") := by decide +kernel
theorem bo_max : bootBuiltins "max" = some (.builtin "max") := by decide +kernel
theorem bo_min : bootBuiltins "min" = some (.builtin "min") := by decide +kernel
theorem bo_all : bootBuiltins "all" = some (.builtin "all") := by decide +kernel
theorem bo_any : bootBuiltins "any" = some (.builtin "any") := by decide +kernel
theorem bo_sum : bootBuiltins "sum" = some (.builtin "sum") := by decide +kernel
theorem bo_isinstance : bootBuiltins "isinstance" = some (.builtin "isinstance") := by decide +kernel
theorem bo_int : bootBuiltins "int" = some (.type "int") := by decide +kernel
theorem bo_bool : bootBuiltins "bool" = some (.type "bool") := by decide +kernel
theorem bo_str : bootBuiltins "str" = some (.type "str") := by decide +kernel
theorem bo_list : bootBuiltins "list" = some (.type "list") := by decide +kernel
theorem bo_tuple : bootBuiltins "tuple" = some (.type "tuple") := by decide +kernel
end N0
namespace N0
open PySem PySem.Spec PyProof.Rows L2 HT
/-! the rules over the written part, this one said by name -/
theorem rel_ty {n : String} : RelV (.ty n) (.type n) := rfl
theorem rel_int {i : Int} {t : Tok} : RelV (.int i) (.int i t) := ⟨_, rfl⟩
section
variable {X : Cx} {K : PySem.W.Frag}
theorem kix_tup (h : X.K = K := by rfl) : IxR X (rIxT K) := h ▸ ix_tup
theorem kix_list (h : X.K = K := by rfl) : IxR X (rIxL K) := h ▸ ix_list
theorem ksl_tupA (h : X.K = K := by rfl) : SlR X (rSlA K) := h ▸ sl_tupA
theorem ksl_list (h : X.K = K := by rfl) : SlR X (rSlL K) := h ▸ sl_list
theorem kop_catA (h : X.K = K := by rfl) : OpR X (binaryOp .Add) (rCatA K) := h ▸ op_catA
theorem kop_repA (h : X.K = K := by rfl) : OpR X (binaryOp .Mult) (rRepA K) := h ▸ op_repA
theorem kop_eqD (hu : X.A.units + 64 < cLine) (h : X.K = K := by rfl) : OpR X (compareOp .Eq) (rEqD K) := h ▸ op_eqD hu
theorem kop_neD (hu : X.A.units + 64 < cLine) (h : X.K = K := by rfl) : OpR X (compareOp .NotEq) (rNeD K) := h ▸ op_neD hu
theorem kcall_isi (h : X.K = K := by rfl) : CallR X (.builtin "isinstance") (rIsi K) := h ▸ call_isi
theorem kcr_all (hc : X.calm = true) (h : X.K = K := by rfl) : CallR X (.builtin "all") (rAll K) := h ▸ cr_all hc
theorem kcr_any (hc : X.calm = true) (h : X.K = K := by rfl) : CallR X (.builtin "any") (rAny K) := h ▸ cr_any hc
theorem kcr_sum (hc : X.calm = true) (h : X.K = K := by rfl) : CallR X (.builtin "sum") (rSum K) := h ▸ cr_sum hc
theorem kcr_min (hc : X.calm = true) (h : X.K = K := by rfl) : CallR X (.builtin "min") (rMin K) := h ▸ cr_min hc
def rLen (K : PySem.W.Frag) : List V → Hp → VK → Prop := fun xs H Q => ∃ p ys, xs = [.ref p] ∧ (SqL K H p ys ∨ SqT K H p ys) ∧ Q (.int ys.length) H
theorem kcall_len (h : X.K = K := by rfl) : CallR X (.builtin "len") (rLen K) := h ▸ call_len_seq
def rListOf (K : PySem.W.Frag) : List V → Hp → VK → Prop := fun xs H Q => ∃ p ys, xs = [.ref p] ∧ (SqL K H p ys ∨ SqT K H p ys) ∧ ∀ l, H l = none → Q (.ref l) (upd H l (.lst ys))
theorem kcall_list (h : X.K = K := by rfl) : CallR X (.type "list") (rListOf K) := h ▸ call_list_of
def rTupOf (K : PySem.W.Frag) : List V → Hp → VK → Prop := fun xs H Q => ∃ p ys, xs = [.ref p] ∧ ((SqL K H p ys ∧ ∀ l, H l = none → Q (.ref l) (upd H l (.tup ys))) ∨ (SqT K H p ys ∧ Q (.ref p) H))
theorem kcall_tuple (h : X.K = K := by rfl) : CallR X (.type "tuple") (rTupOf K) := h ▸ call_tuple_of
variable {tg l : Expr} {tl : TE}
theorem kpi_list (hl : PE X l tl) (h : X.K = K := by rfl) : PI X tg l (iList K tl) := h ▸ pi_list hl
theorem kpi_tup (hl : PE X l tl) (h : X.K = K := by rfl) : PI X tg l (iTup K tl) := h ▸ pi_tup hl
theorem kpt_truth {a : Expr} {ta : TE} (ha : PE X a ta) (he : ∀ whole, isTrue a X.env whole = (do let v ← whole; standAt a.pos; holding [v] (truthy v))) (h : X.K = K := by rfl) :
    PT X a (fun σ H Q => ta σ H fun x H' => ∃ k, TruV K x H' k ∧ Q k H') := h ▸ pt_truth ha he
theorem kpe_revT {e : Expr} {te : TE} {k : Nat} {p1 p2 p3 pos : Pos} (he : PE X e te) (h : X.K = K := by rfl) : PE X (.Subscript e (.Slice none none (some (.UnaryOp .USub (.Constant (.int 1) k p1) p2)) p3) pos) (tRevT K te) := h ▸ pe_revT he
theorem kpg_tup {es : List Expr} {k : Nat} {t : TGs} {n : Nat} {pos : Pos} (hc : X.calm = true) (hh : PGs X es t) (h : X.K = K := by rfl)
    (hn : (assignEach es X.env).length = n := by rfl) (hst : (assignEach es X.env).findIdx? (·.1) = none := by rfl) : PG X (.Tuple es k pos) (gTup K n t) := h ▸ pg_tup hc hh hn hst
end
end N0

namespace N0
open PySem PySem.Spec PyProof.Rows L2 HT
/-! ### what stays: all but a sack of three numbers -/
def Sk (H : Hp) : Option Addr → Prop
  | none => True
  | some s => ∃ a b c : Int, H s = some (.lst [.int a, .int b, .int c])
structure Rs (S : Option Addr) (H H' : Hp) : Prop where
  s0 : Sk H S
  s1 : Sk H' S
  keep : ∀ a o, S ≠ some a → H a = some o → H' a = some o
section
variable {S : Option Addr} {H H1 H2 : Hp} {K : PySem.W.Frag} {a p : Addr} {xs : List V} {o : HO}
theorem Rs.of (h : Sk H S) : Rs S H H := ⟨h, h, fun _ _ _ e => e⟩
theorem Rs.r1 (r : Rs S H H1) : Rs S H1 H1 := .of r.s1
theorem Rs.tr (r : Rs S H H1) (q : Rs S H1 H2) : Rs S H H2 := ⟨r.s0, q.s1, fun a o n e => q.keep a o n (r.keep a o n e)⟩
theorem Sk.same (h : Sk H S) (e : Same H H1) : Sk H1 S := by
  cases S with
  | none => exact True.intro
  | some s => obtain ⟨a, b, c, q⟩ := h; exact ⟨a, b, c, e _ _ q⟩
theorem Rs.same (h : Sk H S) (e : Same H H1) : Rs S H H1 := ⟨h, h.same e, fun a o _ q => e a o q⟩
theorem Rs.to (r : Rs none H H1) : Same H H1 := fun a o e => r.keep a o (fun q => nomatch q) e
theorem Sk.ne (r : Sk H S) (h : H a = some o) (hn : ∀ ys, o ≠ .lst ys) : S ≠ some a := fun q => by
  subst q
  obtain ⟨x, y, z, e⟩ := r
  rw [h] at e
  cases e
  exact hn _ rfl
theorem Rs.tup (r : Rs S H H1) (h : SqT K H a xs) : SqT K H1 a xs := by
  rcases h with (h | ⟨o, h⟩) | h
  · exact .inl (.inl (r.keep _ _ (r.s0.ne h fun _ q => nomatch q) h))
  · exact .inl (.inr ⟨o, r.keep _ _ (r.s0.ne h fun _ q => nomatch q) h⟩)
  · exact .inr h
theorem Rs.lst (r : Rs S H H1) (n : S ≠ some a) (h : SqL K H a xs) : SqL K H1 a xs := by
  rcases h with (h | ⟨o, h⟩) | h
  · exact .inl (.inl (r.keep _ _ n h))
  · exact .inl (.inr ⟨o, r.keep _ _ n h⟩)
  · exact .inr h
theorem new_same (hp : H p = none) : Same H (upd H p o) := fun b u e => by
  rw [upd_ne (ne_of_none e hp)]
  exact e
theorem same_tup (e : Same H H1) (h : SqT K H a xs) : SqT K H1 a xs := (Rs.same (S := none) True.intro e).tup h
/-- a thing that was not there may change -/
theorem same_mut (e : Same H H1) (hp : H p = none) : Same H (upd H1 p o) := fun b u q => by
  rw [upd_ne (ne_of_none q hp)]
  exact e b u q
theorem tup_of (h : H a = some (.tup xs)) : SqT K H a xs := .inl (.inl h)
theorem lst_of (h : H a = some (.lst xs)) : SqL K H a xs := .inl (.inl h)
theorem Rs.fresh (r : Rs S H H1) (hp : H1 p = none) (h0 : H p = none ∨ S = some p ∨ True) : S ≠ some p := fun q => by
  subst q
  obtain ⟨x, y, z, e⟩ := r.s1
  rw [hp] at e
  cases e
end

/-! ### kinds of values -/
/-- an entry of a tuple: a number, or something else -/
inductive En (K : PySem.W.Frag) (H : Hp) : V → Option Int → Prop
  | int (i : Int) : En K H (.int i) (some i)
  | oth {v : V} {t : String} {i b : Bool} (h : TyX K H v (.type t)) (k1 : kitB t "int" = some i) (k2 : kitB t "bool" = some b) (k3 : (i && !b) = false) : En K H v none
/-- a value: a tuple of entries, or something else -/
inductive Va (K : PySem.W.Frag) (H : Hp) : V → Option (List (Option Int)) → Prop
  | tup {a : Addr} {xs : List V} {os : List (Option Int)} (h : SqT K H a xs) (hl : xs.length = os.length) (he : ∀ (j : Nat) x o, xs[j]? = some x → os[j]? = some o → En K H x o) : Va K H (.ref a) (some os)
  | oth {v : V} {t : String} (h : TyX K H v (.type t)) (k : kitB t "tuple" = some false) : Va K H v none
section
variable {K : PySem.W.Frag} {H H1 : Hp}
theorem tyx_same {v : V} {t : Value} (e : Same H H1) (h : TyX K H v t) : TyX K H1 v t := by
  cases h with
  | base b =>
    refine .base ?_
    cases b with
    | non => exact .non
    | bl y => exact .bl y
    | int i => exact .int i
    | str y => exact .str y
    | flt y => exact .flt y
    | lst ea => exact .lst (e _ _ ea)
    | frz ea => exact .frz (e _ _ ea)
    | tup ea => exact .tup (e _ _ ea)
    | dK ea => exact .dK (e _ _ ea)
    | dT ea => exact .dT (e _ _ ea)
    | ins ea cl ha hn htk hm => exact .ins (e _ _ ea) cl ha hn htk hm
  | byt b => exact .byt b
  | set ea => exact .set (e _ _ ea)
  | kList ea c => exact .kList ea c
  | kTuple ea c => exact .kTuple ea c
  | kDict ea c => exact .kDict ea c
  | fTuple ea => exact .fTuple (e _ _ ea)
  | fDict ea => exact .fDict (e _ _ ea)
theorem En.same {v : V} {o : Option Int} (e : Same H H1) (h : En K H v o) : En K H1 v o := by
  cases h with
  | int i => exact .int i
  | oth h k1 k2 k3 => exact .oth (tyx_same e h) k1 k2 k3
theorem tyx_tup {a : Addr} {xs : List V} (h : SqT K H a xs) : TyX K H (.ref a) (.type "tuple") := by
  rcases h with (h | ⟨o, h⟩) | ⟨o, its, n, hk, hc, _⟩
  · exact .base (.tup h)
  · exact .fTuple h
  · exact .kTuple hk hc
/-- whether an entry is a letter or a contrary -/
def okE (n : Int) : Option Int → Bool
  | some i => decide (1 ≤ (if i < 0 then -i else i)) && decide ((if i < 0 then -i else i) ≤ n)
  | none => false
def intsOf : List (Option Int) → List Int
  | [] => []
  | some i :: r => i :: intsOf r
  | none :: r => intsOf r
/-- no entry beside its opposite, as the program asks it -/
def nfB (ns : List Int) : Bool := (List.range (ns.length - 1)).all fun j => !decide (ns.getD j 0 = - ns.getD (j + 1) 0)
def rowB (n m : Int) (os : List (Option Int)) : Bool := !decide (m < os.length) && os.all (okE n)
def bareB (n m : Int) (os : List (Option Int)) : Bool := rowB n m os && nfB (intsOf os)
theorem intsOf_some (ns : List Int) : intsOf (ns.map some) = ns := by
  induction ns with
  | nil => rfl
  | cons a l ih => show a :: intsOf (l.map some) = a :: l; rw [ih]
theorem all_some {n : Int} : ∀ {os : List (Option Int)}, os.all (okE n) = true → os = (intsOf os).map some
  | [], _ => rfl
  | some i :: r, h => by
    rw [List.all_cons, Bool.and_eq_true] at h
    show some i :: r = some i :: (intsOf r).map some
    rw [← all_some h.2]
  | none :: r, h => by
    rw [List.all_cons, Bool.and_eq_true] at h
    exact absurd h.1 Bool.false_ne_true
/-- a tuple of numbers as a value -/
theorem va_ints {a : Addr} {ns : List Int} (h : SqT K H a (ns.map V.int)) : Va K H (.ref a) (some (ns.map some)) := by
  refine .tup h (by rw [List.length_map, List.length_map]) fun j x o hx ho => ?_
  rw [List.getElem?_map] at hx ho
  cases q : ns[j]? with
  | none => rw [q] at hx; cases hx
  | some i =>
    rw [q] at hx ho
    cases hx
    cases ho
    exact .int i
theorem nfB_iff : ∀ {ns : List Int}, nfB ns = true ↔ Fr.Nf ns := by
  have key : ∀ ns : List Int, Fr.Nf ns ↔ ∀ j, j < ns.length - 1 → ns.getD j 0 ≠ - ns.getD (j + 1) 0 := fun ns => by
    induction ns with
    | nil => exact ⟨fun _ j hj => absurd hj (Nat.not_lt_zero _), fun _ => True.intro⟩
    | cons x t ih =>
      cases t with
      | nil => exact ⟨fun _ j hj => absurd hj (Nat.not_lt_zero _), fun _ => True.intro⟩
      | cons y t =>
        constructor
        · intro h j hj
          cases j with
          | zero => exact h.1
          | succ j =>
            have := (ih.mp h.2) j (by simp at hj ⊢; omega)
            exact this
        · intro h
          refine ⟨h 0 (by simp), ih.mpr fun j hj => ?_⟩
          exact h (j + 1) (by simp at hj ⊢; omega)
  intro ns
  rw [key ns]
  unfold nfB
  rw [List.all_eq_true]
  constructor
  · intro h j hj
    have := h j (List.mem_range.mpr hj)
    rw [Bool.not_eq_true'] at this
    exact of_decide_eq_false this
  · intro h j hj
    rw [Bool.not_eq_true']
    exact decide_eq_false (h j (List.mem_range.mp hj))
/-- letters and contraries of n letters -/
def Lt (n : Int) (ns : List Int) : Prop := ∀ i ∈ ns, i ≠ 0 ∧ -n ≤ i ∧ i ≤ n
/-- a word of n letters -/
structure Wd (n : Int) (ns : List Int) : Prop where
  lt : Lt n ns
  nf : Fr.Nf ns
theorem okE_lt {n : Int} {ns : List Int} (h : Lt n ns) : (ns.map some).all (okE n) = true := by
  rw [List.all_eq_true]
  intro o ho
  obtain ⟨i, hi, rfl⟩ := List.mem_map.mp ho
  obtain ⟨h0, h1, h2⟩ := h i hi
  show (decide _ && decide _) = true
  rw [Bool.and_eq_true]
  refine ⟨decide_eq_true ?_, decide_eq_true ?_⟩ <;> split <;> omega
theorem lt_okE {n : Int} {ns : List Int} (h : (ns.map some).all (okE n) = true) : Lt n ns := fun i hi => by
  have := List.all_eq_true.mp h (some i) (List.mem_map.mpr ⟨i, hi, rfl⟩)
  have h2 : (decide (1 ≤ (if i < 0 then -i else i)) && decide ((if i < 0 then -i else i) ≤ n)) = true := this
  rw [Bool.and_eq_true] at h2
  have a1 := of_decide_eq_true h2.1
  have a2 := of_decide_eq_true h2.2
  split at a1 <;> split at a2 <;> omega
theorem row_wd {n m : Int} {ns : List Int} (h : Lt n ns) (hm : (ns.length : Int) ≤ m) : rowB n m (ns.map some) = true := by
  unfold rowB
  rw [okE_lt h, List.length_map, Bool.and_true, Bool.not_eq_true']
  exact decide_eq_false (by omega)
theorem bare_wd {n m : Int} {ns : List Int} (h : Wd n ns) (hm : (ns.length : Int) ≤ m) : bareB n m (ns.map some) = true := by
  unfold bareB
  rw [row_wd h.lt hm, intsOf_some, nfB_iff.mpr h.nf]
  rfl
theorem lt_app {n : Int} {a b : List Int} (ha : Lt n a) (hb : Lt n b) : Lt n (a ++ b) := fun i hi => by
  rcases List.mem_append.mp hi with h | h
  · exact ha i h
  · exact hb i h
theorem lt_push {n e : Int} {s : List Int} (he : e ≠ 0 ∧ -n ≤ e ∧ e ≤ n) (hs : Lt n s) : Lt n (Fr.push e s) := by
  cases s with
  | nil => intro i hi; rw [List.mem_singleton.mp hi]; exact he
  | cons x t =>
    by_cases hx : x = -e
    · rw [Fr.push_eq hx]; exact fun i hi => hs i (List.mem_cons_of_mem _ hi)
    · rw [Fr.push_on hx]
      intro i hi
      rcases List.mem_cons.mp hi with h | h
      · rw [h]; exact he
      · exact hs i h
theorem lt_act {n : Int} : ∀ {w s : List Int}, Lt n w → Lt n s → Lt n (Fr.act w s)
  | [], _, _, hs => hs
  | e :: w, _, hw, hs => lt_act (w := w) (fun i hi => hw i (List.mem_cons_of_mem _ hi)) (lt_push (hw e List.mem_cons_self) hs)
theorem lt_rev {n : Int} {w : List Int} (h : Lt n w) : Lt n w.reverse := fun i hi => h i (List.mem_reverse.mp hi)
theorem lt_nil {n : Int} : Lt n [] := fun _ h => nomatch h
theorem wd_red {n : Int} {w : List Int} (h : Lt n w) : Wd n (Fr.red w) := ⟨lt_rev (lt_act h lt_nil), Fr.red_nf w⟩
theorem lt_opp {n : Int} {w : List Int} (h : Lt n w) : Lt n (Fr.opp w) := fun i hi => by
  unfold Fr.opp at hi
  obtain ⟨j, hj, e⟩ := List.mem_map.mp (List.mem_reverse.mp hi)
  have := h j hj
  omega
theorem len_push (e : Int) (s : List Int) : (Fr.push e s).length ≤ s.length + 1 := by
  cases s with
  | nil => exact Nat.le_refl _
  | cons x t =>
    by_cases hx : x = -e
    · rw [Fr.push_eq hx]; simp; omega
    · rw [Fr.push_on hx]; simp
theorem len_act : ∀ (w s : List Int), (Fr.act w s).length ≤ s.length + w.length
  | [], s => Nat.le_refl _
  | e :: w, s => by
    have h1 := len_act w (Fr.push e s)
    have h2 := len_push e s
    show (Fr.act w (Fr.push e s)).length ≤ _
    rw [List.length_cons]
    omega
theorem len_red (w : List Int) : (Fr.red w).length ≤ w.length := by
  have := len_act w []
  unfold Fr.red
  rw [List.length_reverse]
  simpa using this
end
/-! ### equality of tuples of numbers -/
theorem eqv_ints : ∀ a b : List Int, PyData.eqvAll (a.map PyData.int) (b.map PyData.int) = decide (a = b)
  | [], [] => rfl
  | [], _ :: _ => rfl
  | _ :: _, [] => rfl
  | x :: a, y :: b => by
    show (PyData.eqv (.int x) (.int y) && PyData.eqvAll (a.map PyData.int) (b.map PyData.int)) = _
    rw [eqv_ints a b]
    show ((x == y) && decide (a = b)) = decide (x :: a = y :: b)
    by_cases h : x = y
    · subst h
      by_cases h2 : a = b
      · subst h2; simp
      · simp [h2]
    · simp [h]
theorem eqv_tup (a b : List Int) : PyData.eqv (.tuple (a.map .int)) (.tuple (b.map .int)) = decide (a = b) := eqv_ints a b
theorem canLay_ints : ∀ a : List Int, PyData.canLayAll0 (a.map PyData.int) = true
  | [] => rfl
  | x :: a => by
    show (PyData.canLay0 (.int x) && PyData.canLayAll0 (a.map PyData.int)) = true
    rw [canLay_ints a]
    rfl
theorem dp_ints {K : PySem.W.Frag} {H : Hp} : ∀ ns : List Int, DpAll K H (ns.map V.int) (ns.map PyData.int)
  | [] => .nil
  | x :: a => .cons (.int x) (dp_ints a)
theorem dp_tup {K : PySem.W.Frag} {H : Hp} {a : Addr} {ns : List Int} (h : SqT K H a (ns.map V.int)) : Dp K H (.ref a) (.tuple (ns.map .int)) := .tup h (dp_ints ns)
end N0

namespace N0
open PySem PySem.Spec PyProof.Rows L2 HT
section
variable {K : PySem.W.Frag} {H : Hp} {a b : Addr} {ns ms : List Int} {Q : VK}
def cutI (ns : List Int) (lo hi : Option Int) : List Int := (ns.drop (sIx ns.length 0 lo)).take (sIx ns.length ns.length hi - sIx ns.length 0 lo)
theorem cut_map (ns : List Int) (lo hi : Option Int) : cutV (ns.map V.int) lo hi = (cutI ns lo hi).map V.int := by
  unfold cutV cutI
  rw [List.map_take, List.map_drop, List.length_map]
theorem sl_ints {lo hi : Option Int} (h : SqT K H a (ns.map V.int)) (k : ∀ H' p, Same H H' → SqT K H' p ((cutI ns lo hi).map V.int) → Q (.ref p) H') : rSlA K (.ref a) lo hi H Q := by
  refine ⟨a, _, rfl, h, fun hw => k _ _ (Same.refl _) ?_, fun _ p hp => k _ _ (new_same hp) (tup_of (by rw [upd_same, cut_map]))⟩
  rw [List.length_map] at hw
  unfold cutI
  rw [hw.1, hw.2, List.drop_zero, Nat.sub_zero, List.take_length]
  exact h
theorem cat_ints (h : SqT K H a (ns.map V.int)) (h2 : SqT K H b (ms.map V.int)) (hz : ns.length + ms.length ≤ 100000) (k : ∀ H' p, Same H H' → SqT K H' p ((ns ++ ms).map V.int) → Q (.ref p) H') : rCatA K (.ref a) (.ref b) H Q := by
  refine ⟨a, b, _, _, rfl, rfl, h, h2, ?_, fun e => k _ _ (Same.refl _) ?_, fun _ e => k _ _ (Same.refl _) ?_, fun _ _ p hp => k _ _ (new_same hp) (tup_of (by rw [upd_same, List.map_append]))⟩
  · rw [List.length_map, List.length_map]
    exact Nat.le_trans hz (by decide)
  · have : ns = [] := List.map_eq_nil_iff.mp e
    subst this
    exact h2
  · have : ms = [] := List.map_eq_nil_iff.mp e
    subst this
    rw [List.append_nil]
    exact h
theorem flat_map_rep (ns : List Int) : ∀ k : Nat, (List.replicate k (ns.map V.int)).flatten = (Fr.rep ns k).map V.int := fun k => by
  rw [← Fr.flat_rep, List.map_flatten, List.map_replicate]
theorem rep_ints {k : Int} (h : SqT K H a (ns.map V.int)) (k1 : 1 ≤ k) (k2 : k ≤ 1000) (hz : ns.length ≤ 1000) (q : ∀ H' p, Same H H' → SqT K H' p ((Fr.rep ns k.toNat).map V.int) → Q (.ref p) H') : rRepA K (.ref a) (.int k) H Q := by
  refine ⟨a, k, _, rfl, rfl, h, k1, k2, by rw [List.length_map]; exact hz, fun e => q _ _ (Same.refl _) ?_, fun _ _ p hp => q _ _ (new_same hp) (tup_of (by rw [upd_same, flat_map_rep]))⟩
  rcases e with e | e
  · have : ns = [] := List.map_eq_nil_iff.mp e
    subst this
    rw [Fr.rep_nil]
    exact h
  · subst e
    show SqT K H a ((Fr.rep ns 1).map V.int)
    exact h
theorem cutI_to (ns : List Int) (d : Nat) : cutI ns none (some (d : Int)) = ns.take d := by
  unfold cutI
  rw [sIx_none, sIx_nat, List.drop_zero, Nat.sub_zero]
  by_cases h : d ≤ ns.length
  · rw [Nat.min_eq_left h]
  · rw [Nat.min_eq_right (by omega), List.take_length, List.take_of_length_le (by omega)]
theorem cutI_from (ns : List Int) (d : Nat) : cutI ns (some (d : Int)) none = ns.drop d := by
  unfold cutI
  rw [sIx_none, sIx_nat]
  by_cases h : d ≤ ns.length
  · rw [Nat.min_eq_left h, List.take_of_length_le (by rw [List.length_drop]; omega)]
  · rw [Nat.min_eq_right (by omega), Nat.sub_self, List.take_zero, List.drop_of_length_le (by omega)]
theorem cutI_mid (ns : List Int) (d e : Nat) (he : e ≤ ns.length) (hd : d ≤ e) : cutI ns (some (d : Int)) (some (e : Int)) = (ns.drop d).take (e - d) := by
  unfold cutI
  rw [sIx_nat, sIx_nat, Nat.min_eq_left he, Nat.min_eq_left (by omega)]
end
theorem depth_ints : ∀ ns : List Int, PyData.depthAll (ns.map PyData.int) = 0
  | [] => rfl
  | x :: a => by
    show max (PyData.depth (.int x)) (PyData.depthAll (a.map PyData.int)) = 0
    rw [depth_ints a]
    rfl
theorem shaped_list (ns : List Int) : SeqAt.shaped (.list (ns.map .int)) = true := by
  unfold SeqAt.shaped
  rw [show PyData.canLay0 (.list (ns.map .int)) = PyData.canLayAll0 (ns.map .int) from rfl, canLay_ints, show PyData.depth (.list (ns.map .int)) = PyData.depthAll (ns.map .int) + 1 from rfl, depth_ints]
  rfl
theorem shaped_tup (ns : List Int) : SeqAt.shaped (.tuple (ns.map .int)) = true := by
  unfold SeqAt.shaped
  rw [show PyData.canLay0 (.tuple (ns.map .int)) = PyData.canLayAll0 (ns.map .int) from rfl, canLay_ints, show PyData.depth (.tuple (ns.map .int)) = PyData.depthAll (ns.map .int) + 1 from rfl, depth_ints]
  rfl
theorem eqv_list (a b : List Int) : PyData.eqv (.list (a.map .int)) (.list (b.map .int)) = decide (a = b) := eqv_ints a b
theorem dp_list {K : PySem.W.Frag} {H : Hp} {a : Addr} {ns : List Int} (h : SqL K H a (ns.map V.int)) : Dp K H (.ref a) (.list (ns.map .int)) := .lst h (dp_ints ns)
/-- two tuples of numbers compared -/
theorem ne_tup {K : PySem.W.Frag} {H : Hp} {a b : Addr} {ns ms : List Int} {Q : VK} (h : SqT K H a (ns.map V.int)) (h2 : SqT K H b (ms.map V.int)) (q : Q (.bl (!decide (ns = ms))) H) : rNeD K (.ref a) (.ref b) H Q :=
  ⟨_, _, dp_tup h, dp_tup h2, shaped_tup ns, shaped_tup ms, by rw [eqv_tup]; exact q⟩
theorem eq_tup {K : PySem.W.Frag} {H : Hp} {a b : Addr} {ns ms : List Int} {Q : VK} (h : SqT K H a (ns.map V.int)) (h2 : SqT K H b (ms.map V.int)) (q : Q (.bl (decide (ns = ms))) H) : rEqD K (.ref a) (.ref b) H Q :=
  ⟨_, _, dp_tup h, dp_tup h2, shaped_tup ns, shaped_tup ms, by rw [eqv_tup]; exact q⟩
theorem ne_list {K : PySem.W.Frag} {H : Hp} {a b : Addr} {ns ms : List Int} {Q : VK} (h : SqL K H a (ns.map V.int)) (h2 : SqL K H b (ms.map V.int)) (q : Q (.bl (!decide (ns = ms))) H) : rNeD K (.ref a) (.ref b) H Q :=
  ⟨_, _, dp_list h, dp_list h2, shaped_list ns, shaped_list ms, by rw [eqv_list]; exact q⟩
/-! the core by its two ends -/
def Pal (ns : List Int) (d : Nat) : Prop := 2 * d ≤ ns.length ∧ ∀ j, j < d → ns.getD j 0 = - ns.getD (ns.length - 1 - j) 0
theorem getD_of {ns : List Int} {j : Nat} (h : j < ns.length) : ns[j]? = some (ns.getD j 0) := by
  rw [List.getD_eq_getElem?_getD, List.getElem?_eq_getElem h]
  rfl
theorem pal_split {ns : List Int} {d : Nat} (h : Pal ns d) : ns = ns.take d ++ (ns.drop d).take (ns.length - d - d) ++ Fr.opp (ns.take d) := by
  obtain ⟨h1, h2⟩ := h
  have e : Fr.opp (ns.take d) = ns.drop (ns.length - d) := by
    refine List.ext_getElem? fun j => ?_
    by_cases hj : j < d
    · have a1 : (Fr.opp (ns.take d))[j]? = some (- ns.getD (d - 1 - j) 0) := by
        unfold Fr.opp
        rw [List.getElem?_reverse (by rw [List.length_map, List.length_take]; omega), List.length_map, List.length_take, Nat.min_eq_left (by omega), List.getElem?_map, List.getElem?_take, if_pos (by omega), getD_of (by omega)]
        rfl
      rw [a1, List.getElem?_drop, getD_of (by omega), h2 (d - 1 - j) (by omega), Int.neg_neg]
      have : ns.length - 1 - (d - 1 - j) = ns.length - d + j := by omega
      rw [this]
    · rw [List.getElem?_eq_none (by rw [Fr.opp_len, List.length_take]; omega), List.getElem?_eq_none (by rw [List.length_drop]; omega)]
  rw [e]
  have e2 : ns.drop d = (ns.drop d).take (ns.length - d - d) ++ ns.drop (ns.length - d) := by
    have := (List.take_append_drop (ns.length - d - d) (ns.drop d)).symm
    rw [List.drop_drop] at this
    have e3 : d + (ns.length - d - d) = ns.length - d := by omega
    rw [e3] at this
    exact this
  rw [List.append_assoc, ← e2, List.take_append_drop]
theorem nf_at : ∀ {ns : List Int}, Fr.Nf ns → ∀ j, j + 1 < ns.length → ns.getD j 0 ≠ - ns.getD (j + 1) 0
  | [], _, j, h => absurd h (Nat.not_lt_zero _)
  | [_], _, j, h => by simp at h
  | x :: y :: t, hn, 0, _ => hn.1
  | x :: y :: t, hn, j + 1, h => nf_at (ns := y :: t) hn.2 j (by simp at h ⊢; omega)
theorem pal_mid {n : Int} {ns : List Int} {d : Nat} (hw : Wd n ns) (h : Pal ns d) (hn : ns ≠ []) (stop : ¬ (2 * d + 1 < ns.length ∧ ns.getD d 0 = - ns.getD (ns.length - 1 - d) 0)) :
    (ns.drop d).take (ns.length - d - d) ≠ [] ∧ ∀ x y, ((ns.drop d).take (ns.length - d - d)).getLast? = some x → ((ns.drop d).take (ns.length - d - d)).head? = some y → x ≠ -y := by
  have hp : 0 < ns.length := List.length_pos_iff.mpr hn
  obtain ⟨h1, h2⟩ := h
  have h3 : 2 * d < ns.length := by
    by_cases q : 2 * d = ns.length
    · exfalso
      have hd : 0 < d := by omega
      have a1 := h2 (d - 1) (by omega)
      have e : ns.length - 1 - (d - 1) = d - 1 + 1 := by omega
      rw [e] at a1
      exact nf_at hw.nf (d - 1) (by omega) a1
    · omega
  have hlen : ((ns.drop d).take (ns.length - d - d)).length = ns.length - d - d := by rw [List.length_take, List.length_drop]; omega
  refine ⟨fun q => by rw [q] at hlen; simp at hlen; omega, fun x y hx hy => ?_⟩
  rw [List.getLast?_eq_getElem?, hlen, List.getElem?_take, if_pos (by omega), List.getElem?_drop, getD_of (by omega)] at hx
  rw [List.head?_eq_getElem?, List.getElem?_take, if_pos (by omega), List.getElem?_drop, getD_of (by omega)] at hy
  cases hx
  cases hy
  have e1 : d + (ns.length - d - d - 1) = ns.length - 1 - d := by omega
  rw [e1, Nat.add_zero]
  intro q
  by_cases h4 : 2 * d + 1 < ns.length
  · exact stop ⟨h4, by omega⟩
  · have e2 : ns.length - 1 - d = d := by omega
    rw [e2] at q
    have := (hw.lt (ns.getD d 0) (List.mem_of_getElem? (getD_of (ns := ns) (j := d) (by omega)))).1
    omega
end N0

namespace N0
open PySem PySem.Spec PyProof.Rows L2 HT
section
variable {K : PySem.W.Frag} {H H1 : Hp} {σ : L2.St}
theorem va_same {v : V} {o : Option (List (Option Int))} (e : Same H H1) (h : Va K H v o) : Va K H1 v o := by
  cases h with
  | tup h hl he => exact .tup (same_tup e h) hl fun j x o hx ho => (he j x o hx ho).same e
  | oth h k => exact .oth (tyx_same e h) k
/-- te gives a value of which P holds, and leaves all that was there -/
def EvS (te : TE) (σ : L2.St) (H : Hp) (P : V → Hp → Prop) : Prop := ∀ H1, Same H H1 → ∀ Q : VK, (∀ v H2, Same H1 H2 → P v H2 → Q v H2) → te σ H1 Q
abbrev IsE (K : PySem.W.Frag) (o : Option Int) : V → Hp → Prop := fun v H => En K H v o
abbrev IsT (K : PySem.W.Frag) (os : List (Option Int)) : V → Hp → Prop := fun v H => Va K H v (some os)
theorem evs_c {v : V} {P : V → Hp → Prop} (h : ∀ H1, Same H H1 → P v H1) : EvS (tC v) σ H P := fun H1 e Q q => q v H1 (Same.refl _) (h H1 e)
theorem evs_var {i : Nat} {v : V} {P : V → Hp → Prop} (hv : σ[i]? = some (some v)) (h : ∀ H1, Same H H1 → P v H1) : EvS (tVar i) σ H P := fun H1 e Q q => ⟨v, hv, q v H1 (Same.refl _) (h H1 e)⟩
theorem en_tup0 : IsT K [] (.ref a) (upd H a (.tup [])) := .tup (tup_of upd_same) rfl fun j x o hx _ => nomatch hx
theorem evs_t0 : EvS (tTup tNil) σ H (IsT K []) := fun H1 e Q q => ⟨Nat.zero_le _, fun p hp => q _ _ (new_same hp) (.tup (tup_of upd_same) rfl fun j x o hx _ => nomatch hx)⟩
theorem evs_t1 {te : TE} {o : Option Int} (h : EvS te σ H (IsE K o)) : EvS (tTup (tCons te tNil)) σ H (IsT K [o]) := fun H1 e Q q => h H1 e _ fun v H2 e2 hv =>
  ⟨by show 1 ≤ sizeLine; decide, fun p hp => q _ _ (Same.trans e2 (new_same hp)) (.tup (tup_of upd_same) rfl fun j x u hx hu => by
    cases j with
    | zero => cases hx; cases hu; exact hv.same (new_same hp)
    | succ j => cases hx)⟩
theorem evs_t2 {te tf : TE} {o u : Option Int} (h : EvS te σ H (IsE K o)) (h2 : EvS tf σ H (IsE K u)) : EvS (tTup (tCons te (tCons tf tNil))) σ H (IsT K [o, u]) := fun H1 e Q q => h H1 e _ fun v H2 e2 hv => h2 H2 (Same.trans e e2) _ fun v2 H3 e3 hv2 =>
  ⟨by show 2 ≤ sizeLine; decide, fun p hp => q _ _ (Same.trans (Same.trans e2 e3) (new_same hp)) (.tup (tup_of upd_same) rfl fun j x y hx hy => by
    cases j with
    | zero => cases hx; cases hy; exact (hv.same e3).same (new_same hp)
    | succ j =>
      cases j with
      | zero => cases hx; cases hy; exact hv2.same (new_same hp)
      | succ j => cases hx)⟩
theorem evs_cat {ta tb : TE} {os ps : List (Option Int)} (h1 : EvS ta σ H (IsT K os)) (h2 : EvS tb σ H (IsT K ps)) (hz : os.length + ps.length ≤ 100000) : EvS (tOp (rCatA K) ta tb) σ H (IsT K (os ++ ps)) := fun H1 e Q q =>
  h1 H1 e _ fun v H2 e2 hv => h2 H2 (Same.trans e e2) _ fun v2 H3 e3 hv2 => by
    have hv := va_same e3 hv
    cases hv with
    | @tup a xs _ h hl he =>
      cases hv2 with
      | @tup b ys _ h' hl' he' =>
        refine ⟨a, b, xs, ys, rfl, rfl, h, h', Nat.le_trans (by omega) (by decide : 100000 ≤ sizeLine), fun ex => q _ _ (Same.trans e2 e3) ?_, fun _ ey => q _ _ (Same.trans e2 e3) ?_, fun _ _ p hp => q _ _ (Same.trans (Same.trans e2 e3) (new_same hp)) ?_⟩
        · subst ex
          have : os = [] := List.eq_nil_of_length_eq_zero hl.symm
          subst this
          exact .tup h' hl' he'
        · subst ey
          have : ps = [] := List.eq_nil_of_length_eq_zero hl'.symm
          subst this
          rw [List.append_nil]
          exact .tup h hl he
        · refine .tup (tup_of upd_same) (by rw [List.length_append, List.length_append, hl, hl']) fun j x o hx ho => ?_
          refine En.same (new_same hp) ?_
          by_cases hj : j < xs.length
          · rw [List.getElem?_append_left hj] at hx
            rw [List.getElem?_append_left (by omega)] at ho
            exact he j x o hx ho
          · rw [List.getElem?_append_right (by omega)] at hx
            rw [List.getElem?_append_right (by omega), ← hl] at ho
            exact he' _ x o hx ho
theorem evs_ints {te : TE} {a : Addr} {ns : List Int} (h : EvS te σ H fun v H => ∃ a, v = .ref a ∧ SqT K H a (ns.map V.int)) : EvS te σ H (IsT K (ns.map some)) := fun H1 e Q q => h H1 e _ fun v H2 e2 ⟨a, ev, ha⟩ => q v H2 e2 (by rw [ev]; exact va_ints ha)
abbrev IsI (K : PySem.W.Frag) (ns : List Int) : V → Hp → Prop := fun v H => ∃ a, v = .ref a ∧ SqT K H a (ns.map V.int)
theorem isI {te : TE} {ns : List Int} (h : EvS te σ H (IsI K ns)) : EvS te σ H (IsT K (ns.map some)) := fun H1 e Q q => h H1 e _ fun v H2 e2 ⟨a, ev, ha⟩ => q v H2 e2 (by rw [ev]; exact va_ints ha)
theorem evs_to {i j : Nat} {a : Addr} {k : Nat} {ns : List Int} (hi : σ[i]? = some (some (.ref a))) (hj : σ[j]? = some (some (.int (k : Int)))) (h : SqT K H a (ns.map V.int)) : EvS (tSl (rSlA K) (tVar i) tNoPart (tPart (tVar j))) σ H (IsI K (ns.take k)) := fun H1 e Q q =>
  ⟨.ref a, hi, .int (k : Int), hj, (k : Int), rfl, sl_ints (same_tup e h) fun H2 p e2 hp => q _ _ e2 ⟨p, rfl, by rw [cutI_to] at hp; exact hp⟩⟩
theorem nopart {Q : Option Int → Hp → Prop} (h : Q none H) : tNoPart σ H Q := h
theorem evs_from {i j : Nat} {a : Addr} {k : Nat} {ns : List Int} (hi : σ[i]? = some (some (.ref a))) (hj : σ[j]? = some (some (.int (k : Int)))) (h : SqT K H a (ns.map V.int)) : EvS (tSl (rSlA K) (tVar i) (tPart (tVar j)) tNoPart) σ H (IsI K (ns.drop k)) := fun H1 e Q q =>
  ⟨.ref a, hi, .int (k : Int), hj, (k : Int), rfl, nopart (sl_ints (same_tup e h) fun H2 p e2 hp => q _ _ e2 ⟨p, rfl, by rw [cutI_from] at hp; exact hp⟩)⟩
/-- what is judged, and the word on it -/
def Itm (K : PySem.W.Frag) (J : Option (List (Option Int)) → Bool) : V → Hp → Prop := fun x H => ∃ (t : Addr) (v : V) (b : Bool) (o : Option (List (Option Int))), x = .ref t ∧ SqT K H t [v, .bl b] ∧ Va K H v o ∧ J o = b
theorem itm_same {J : Option (List (Option Int)) → Bool} {x : V} (e : Same H H1) (h : Itm K J x H) : Itm K J x H1 := by
  obtain ⟨t, v, b, o, e1, e2, e3, e4⟩ := h
  exact ⟨t, v, b, o, e1, same_tup e e2, va_same e e3, e4⟩
theorem evs_itm {J : Option (List (Option Int)) → Bool} {te : TE} {b : Bool} (h : EvS te σ H fun v H => ∃ o, Va K H v o ∧ J o = b) : EvS (tTup (tCons te (tCons (tC (.bl b)) tNil))) σ H (Itm K J) := fun H1 e Q q => h H1 e _ fun v H2 e2 ⟨o, hv, hj⟩ =>
  ⟨by show 2 ≤ sizeLine; decide, fun p hp => q _ _ (Same.trans e2 (new_same hp)) ⟨p, v, b, o, rfl, tup_of upd_same, va_same (new_same hp) hv, hj⟩⟩
theorem evs_of {te : TE} {P P' : V → Hp → Prop} (h : EvS te σ H P) (f : ∀ v H, P v H → P' v H) : EvS te σ H P' := fun H1 e Q q => h H1 e Q fun v H2 e2 hv => q v H2 e2 (f v H2 hv)
theorem itm_t {J : Option (List (Option Int)) → Bool} {te : TE} {b : Bool} {os : List (Option Int)} (h : EvS te σ H (IsT K os)) (hj : J (some os) = b) : EvS (tTup (tCons te (tCons (tC (.bl b)) tNil))) σ H (Itm K J) := evs_itm (evs_of h fun v H hv => ⟨_, hv, hj⟩)
theorem itm_o {J : Option (List (Option Int)) → Bool} {te : TE} {b : Bool} (h : EvS te σ H fun v H => Va K H v none) (hj : J none = b) : EvS (tTup (tCons te (tCons (tC (.bl b)) tNil))) σ H (Itm K J) := evs_itm (evs_of h fun v H hv => ⟨_, hv, hj⟩)
/-- the items of a display -/
def EvA (ta : TA) (σ : L2.St) (H : Hp) (n : Nat) (P : V → Hp → Prop) : Prop := ∀ H1, Same H H1 → ∀ Q : List V → Hp → Prop, (∀ vs H2, Same H1 H2 → vs.length = n → (∀ v ∈ vs, P v H2) → Q vs H2) → ta σ H1 Q
theorem eva_nil {P : V → Hp → Prop} : EvA tNil σ H 0 P := fun H1 e Q q => q [] H1 (Same.refl _) rfl fun _ h => nomatch h
theorem eva_cons {te : TE} {ta : TA} {n : Nat} {P : V → Hp → Prop} (pp : ∀ v H H1, Same H H1 → P v H → P v H1) (h : EvS te σ H P) (h2 : EvA ta σ H n P) : EvA (tCons te ta) σ H (n + 1) P := fun H1 e Q q => h H1 e _ fun v H2 e2 hv => h2 H2 (Same.trans e e2) _ fun vs H3 e3 hn hvs =>
  q _ _ (Same.trans e2 e3) (by rw [List.length_cons, hn]) fun u hu => by
    rcases List.mem_cons.mp hu with hu | hu
    · rw [hu]; exact pp _ _ _ e3 hv
    · exact hvs u hu
end
end N0

/-! rotations: which is least -/
namespace Rg
def Lt (a : Nat → Int) (s t : Nat) : Prop := ∃ j, (∀ i, i < j → a (s + i) = a (t + i)) ∧ a (s + j) < a (t + j)
variable {a : Nat → Int}
theorem Lt.irr {s : Nat} : ¬ Lt a s s := fun ⟨j, _, h⟩ => Int.lt_irrefl _ h
theorem Lt.asy {s t : Nat} (h : Lt a s t) : ¬ Lt a t s := fun ⟨j, h1, h2⟩ => by
  obtain ⟨i, g1, g2⟩ := h
  rcases Nat.lt_trichotomy i j with q | q | q
  · have := h1 i q; omega
  · subst q; omega
  · have := g1 j q; omega
theorem Lt.ntr {s t u : Nat} (h1 : ¬ Lt a s t) (h2 : ¬ Lt a t u) : ¬ Lt a s u := fun ⟨j, g1, g2⟩ => by
  have key : ∀ k, k ≤ j → ∀ i, i < k → a (t + i) = a (s + i) := by
    intro k
    induction k with
    | zero => exact fun _ i hi => absurd hi (Nat.not_lt_zero _)
    | succ k ih =>
      intro hk i hi
      have ih := ih (by omega)
      by_cases q : i < k
      · exact ih i q
      · have : i = k := by omega
        subst this
        have e1 : ¬ a (s + i) < a (t + i) := fun q => h1 ⟨i, fun m hm => (ih m hm).symm, q⟩
        have e2 : ¬ a (t + i) < a (u + i) := fun q => h2 ⟨i, fun m hm => (ih m hm).trans (g1 m (by omega)), q⟩
        have e3 := g1 i (by omega)
        omega
  have ih := key j (Nat.le_refl _)
  have e1 : ¬ a (s + j) < a (t + j) := fun q => h1 ⟨j, fun m hm => (ih m hm).symm, q⟩
  exact h2 ⟨j, fun m hm => (ih m hm).trans (g1 m hm), by omega⟩
theorem exists_min (a : Nat → Int) : ∀ n, 0 < n → ∃ m, m < n ∧ ∀ t, t < n → ¬ Lt a t m
  | 0, h => absurd h (Nat.lt_irrefl _)
  | 1, _ => ⟨0, by decide, fun t ht => (show t = 0 by omega) ▸ Lt.irr⟩
  | n + 2, _ => by
    obtain ⟨m, hm, h⟩ := exists_min a (n + 1) (by omega)
    by_cases q : Lt a (n + 1) m
    · refine ⟨n + 1, by omega, fun t ht => ?_⟩
      by_cases e : t = n + 1
      · subst e; exact Lt.irr
      · exact Lt.ntr (h t (by omega)) q.asy
    · refine ⟨m, by omega, fun t ht => ?_⟩
      by_cases e : t = n + 1
      · subst e; exact q
      · exact h t (by omega)
def Per (a : Nat → Int) (n : Nat) : Prop := ∀ i, a (i + n) = a i
theorem Per.mul {n : Nat} (h : Per a n) : ∀ k i, a (i + k * n) = a i
  | 0, i => by rw [Nat.zero_mul, Nat.add_zero]
  | k + 1, i => by rw [Nat.succ_mul, ← Nat.add_assoc, h, h.mul k]
theorem Per.mod {n : Nat} (h : Per a n) (t i : Nat) : a (t % n + i) = a (t + i) := by
  have e : t + i = t % n + i + (t / n) * n := by have := Nat.mod_add_div t n; rw [Nat.mul_comm] at this; omega
  rw [e, h.mul]
def Least (a : Nat → Int) (s : Nat) : Prop := ∀ t, ¬ Lt a t s
theorem least_min {n : Nat} (p : Per a n) (hn : 0 < n) {s : Nat} (h : ∀ t, t < n → ¬ Lt a t s) : Least a s := fun t ⟨j, h1, h2⟩ => h (t % n) (Nat.mod_lt _ hn) ⟨j, fun i hi => by rw [p.mod]; exact h1 i hi, by rw [p.mod]; exact h2⟩
theorem least_eq {s t : Nat} (hs : Least a s) (ht : Least a t) : ∀ i, a (s + i) = a (t + i) := fun i => by
  have key : ∀ k, ∀ i, i < k → a (s + i) = a (t + i) := by
    intro k
    induction k with
    | zero => exact fun i hi => absurd hi (Nat.not_lt_zero _)
    | succ k ih =>
      intro i hi
      by_cases q : i < k
      · exact ih i q
      · have : i = k := by omega
        subst this
        have e1 : ¬ a (s + i) < a (t + i) := fun q => ht s ⟨i, ih, q⟩
        have e2 : ¬ a (t + i) < a (s + i) := fun q => hs t ⟨i, fun m hm => (ih m hm).symm, q⟩
        omega
  exact key (i + 1) i (by omega)
theorem least_of_eq {s t : Nat} (hs : Least a s) (h : ∀ i, a (s + i) = a (t + i)) : Least a t := fun u ⟨j, h1, h2⟩ => hs u ⟨j, fun i hi => (h1 i hi).trans (h i).symm, by rw [h]; exact h2⟩
/-- two places that compete -/
structure Inv (a : Nat → Int) (f s k : Nat) : Prop where
  ne : f ≠ s
  eq : ∀ i, i < k → a (f + i) = a (s + i)
  bad : ∀ t, t < max f s → t ≠ f → t ≠ s → ∃ u, Lt a u t
theorem Inv.symm {f s k : Nat} (h : Inv a f s k) : Inv a s f k := ⟨h.ne.symm, fun i hi => (h.eq i hi).symm, fun t ht h1 h2 => h.bad t (by omega) h2 h1⟩
theorem Inv.start : Inv a 0 1 0 := ⟨by decide, fun i hi => absurd hi (Nat.not_lt_zero _), fun t ht h1 h2 => by omega⟩
theorem Inv.grow {f s k : Nat} (h : Inv a f s k) (e : a (f + k) = a (s + k)) : Inv a f s (k + 1) := ⟨h.ne, fun i hi => by
  by_cases q : i < k
  · exact h.eq i q
  · have : i = k := by omega
    subst this; exact e, h.bad⟩
theorem Inv.lost {f s k : Nat} (h : Inv a f s k) (e : a (s + k) < a (f + k)) (t : Nat) (h1 : f ≤ t) (h2 : t ≤ f + k) : ∃ u, Lt a u t := by
  refine ⟨s + (t - f), k - (t - f), fun i hi => ?_, ?_⟩
  · have e1 : s + (t - f) + i = s + ((t - f) + i) := by omega
    have e2 : t + i = f + ((t - f) + i) := by omega
    rw [e1, e2]
    exact (h.eq _ (by omega)).symm
  · have e1 : s + (t - f) + (k - (t - f)) = s + k := by omega
    have e2 : t + (k - (t - f)) = f + k := by omega
    rw [e1, e2]
    exact e
theorem Inv.on {f s k : Nat} (h : Inv a f s k) (e : a (s + k) < a (f + k)) (hne : f + k + 1 ≠ s) : Inv a (f + k + 1) s 0 := by
  refine ⟨hne, fun i hi => absurd hi (Nat.not_lt_zero _), fun t ht h1 h2 => ?_⟩
  by_cases q : f ≤ t ∧ t ≤ f + k
  · exact h.lost e t q.1 q.2
  · exact h.bad t (by omega) (by omega) h2
theorem Inv.on2 {f s k : Nat} (h : Inv a f s k) (e : a (s + k) < a (f + k)) (hne : f + k + 1 = s) : Inv a (f + k + 1) (s + 1) 0 := by
  refine ⟨by omega, fun i hi => absurd hi (Nat.not_lt_zero _), fun t ht h1 h2 => ?_⟩
  by_cases q : f ≤ t ∧ t ≤ f + k
  · exact h.lost e t q.1 q.2
  · exact h.bad t (by omega) (by omega) (by omega)
theorem Inv.done {n f s k : Nat} (p : Per a n) (hn : 0 < n) (h : Inv a f s k) (hlt : f < s) (hz : ¬ (s < n ∧ k < n)) : f < n ∧ Least a f := by
  obtain ⟨m, hm, hmin⟩ := exists_min a n hn
  have lm := least_min p hn hmin
  have nb : ∀ t, t < s → t ≠ f → ∃ u, Lt a u t := fun t ht h1 => h.bad t (by omega) h1 (by omega)
  by_cases q : m < s
  · by_cases e : m = f
    · subst e; exact ⟨hm, lm⟩
    · obtain ⟨u, hu⟩ := nb m q e
      exact absurd hu (lm u)
  · have hk : ¬ k < n := fun z => hz ⟨by omega, z⟩
    have per : ∀ i, a (f + i) = a (s + i) := fun i => by
      have e1 : a (f + i) = a (f + i % n) := by
        have := p.mul (i / n) (f + i % n)
        have e : f + i % n + i / n * n = f + i := by have := Nat.mod_add_div i n; rw [Nat.mul_comm] at this; omega
        rw [e] at this; exact this
      have e2 : a (s + i) = a (s + i % n) := by
        have := p.mul (i / n) (s + i % n)
        have e : s + i % n + i / n * n = s + i := by have := Nat.mod_add_div i n; rw [Nat.mul_comm] at this; omega
        rw [e] at this; exact this
      have := Nat.mod_lt i hn
      rw [e1, e2, h.eq (i % n) (by omega)]
    let d := s - f
    let b : Nat → Int := fun i => a (f + i)
    have pb : Per b d := fun i => by
      show a (f + (i + (s - f))) = a (f + i)
      have e : f + (i + (s - f)) = s + i := by omega
      rw [e, per]
    have hd : 0 < d := by show 0 < s - f; omega
    have eqs : ∀ i, a (f + (m - f) % d + i) = a (m + i) := fun i => by
      have := pb.mod (m - f) i
      show _
      have e1 : a (f + ((m - f) % d + i)) = a (f + ((m - f) + i)) := this
      have e2 : f + ((m - f) + i) = m + i := by omega
      have e3 : f + (m - f) % d + i = f + ((m - f) % d + i) := by omega
      rw [e3, e1, e2]
    have hmod := Nat.mod_lt (m - f) hd
    by_cases e : (m - f) % d = 0
    · rw [e, Nat.add_zero] at eqs
      exact ⟨by omega, least_of_eq lm fun i => (eqs i).symm⟩
    · obtain ⟨u, hu⟩ := nb (f + (m - f) % d) (by show _ < s; have : d = s - f := rfl; omega) (by omega)
      exact absurd hu (least_of_eq lm (fun i => (eqs i).symm) u)
theorem Inv.fin {n f s k : Nat} (p : Per a n) (hn : 0 < n) (h : Inv a f s k) (hz : ¬ (f < n ∧ s < n ∧ k < n)) : min f s < n ∧ Least a (min f s) := by
  rcases Nat.lt_or_ge f s with q | q
  · have := h.done p hn q (by omega)
    rw [Nat.min_eq_left (by omega)]; exact this
  · have hne := h.ne
    have := h.symm.done p hn (by omega) (by omega)
    rw [Nat.min_eq_right (by omega)]; exact this
/-! a list, round and round -/
def sq (l : List Int) (i : Nat) : Int := l.getD (i % l.length) 0
def rot (l : List Int) (k : Nat) : List Int := l.drop k ++ l.take k
theorem per_sq (l : List Int) : Per (sq l) l.length := fun i => by unfold sq; rw [Nat.add_mod_right]
theorem rot_len (l : List Int) (k : Nat) : (rot l k).length = l.length := by
  unfold rot; rw [List.length_append, List.length_drop, List.length_take]; omega
theorem rot_at {l : List Int} {k j : Nat} (hk : k ≤ l.length) (hj : j < l.length) : (rot l k).getD j 0 = sq l (k + j) := by
  unfold rot sq
  rw [List.getD_eq_getElem?_getD, List.getD_eq_getElem?_getD]
  by_cases q : j < l.length - k
  · rw [List.getElem?_append_left (by rw [List.length_drop]; exact q), List.getElem?_drop, Nat.mod_eq_of_lt (by omega)]
  · rw [List.getElem?_append_right (by rw [List.length_drop]; omega), List.length_drop, List.getElem?_take, if_pos (by omega)]
    have e : k + j = j - (l.length - k) + l.length := by omega
    rw [e, Nat.add_mod_right, Nat.mod_eq_of_lt (by omega)]
theorem list_ext {l m : List Int} (hl : l.length = m.length) (h : ∀ j, j < l.length → l.getD j 0 = m.getD j 0) : l = m := by
  refine List.ext_getElem? fun j => ?_
  by_cases q : j < l.length
  · rw [N0.getD_of q, N0.getD_of (hl ▸ q), h j q]
  · rw [List.getElem?_eq_none (by omega), List.getElem?_eq_none (by omega)]
theorem rot_sq {l : List Int} {k : Nat} (hk : k ≤ l.length) (i : Nat) : sq (rot l k) i = sq l (k + i) := by
  by_cases hn : l.length = 0
  · have : l = [] := List.eq_nil_of_length_eq_zero hn
    subst this
    unfold rot sq; simp
  · have : sq (rot l k) i = (rot l k).getD (i % l.length) 0 := by show (rot l k).getD (i % (rot l k).length) 0 = _; rw [rot_len]
    rw [this, rot_at hk (Nat.mod_lt _ (by omega))]
    have e := (per_sq l).mul (i / l.length) (k + i % l.length)
    have e1 : k + i % l.length + i / l.length * l.length = k + i := by have := Nat.mod_add_div i l.length; rw [Nat.mul_comm] at this; omega
    rw [e1] at e
    exact e.symm
theorem sq_self {l : List Int} {j : Nat} (hj : j < l.length) : sq l j = l.getD j 0 := by unfold sq; rw [Nat.mod_eq_of_lt hj]
/-- a row is the ring of another one -/
def Ring (m r : List Int) : Prop := r.length = m.length ∧ ∃ s, Least (sq m) s ∧ ∀ i, sq r i = sq m (s + i)
theorem ring_uniq {m r q : List Int} (h1 : Ring m r) (h2 : Ring m q) : r = q := by
  obtain ⟨l1, s, a1, b1⟩ := h1
  obtain ⟨l2, t, a2, b2⟩ := h2
  refine list_ext (l1.trans l2.symm) fun j hj => ?_
  have := least_eq a1 a2 j
  rw [← b1, ← b2, sq_self hj, sq_self (by omega)] at this
  exact this
theorem ring_rot {m : List Int} {k : Nat} (hk : k ≤ m.length) (h : Least (sq m) k) : Ring m (rot m k) := ⟨rot_len m k, k, h, fun i => rot_sq hk i⟩
/-- m is u turned -/
def Tn (u m : List Int) : Prop := m.length = u.length ∧ ∃ k, ∀ i, sq m i = sq u (k + i)
theorem tn_rot {m : List Int} {k : Nat} (hk : k ≤ m.length) : Tn m (rot m k) := ⟨rot_len m k, k, fun i => rot_sq hk i⟩
theorem Tn.refl (m : List Int) : Tn m m := ⟨rfl, 0, fun i => by rw [Nat.zero_add]⟩
theorem Tn.symm {u m : List Int} (h : Tn u m) : Tn m u := by
  obtain ⟨h1, k, h2⟩ := h
  by_cases hn : u.length = 0
  · have e1 : u = [] := List.eq_nil_of_length_eq_zero hn
    have e2 : m = [] := List.eq_nil_of_length_eq_zero (by omega)
    subst e1 e2
    exact Tn.refl _
  · refine ⟨h1.symm, u.length - k % u.length, fun i => ?_⟩
    rw [h2]
    have hm := Nat.mod_lt k (Nat.pos_of_ne_zero hn)
    have hd := Nat.mod_add_div k u.length
    rw [Nat.mul_comm] at hd
    have e : k + (u.length - k % u.length + i) = i + (k / u.length + 1) * u.length := by rw [Nat.add_mul, Nat.one_mul]; omega
    rw [e, (per_sq u).mul]
theorem Tn.trans {u m v : List Int} (h : Tn u m) (g : Tn m v) : Tn u v := by
  obtain ⟨h1, k, h2⟩ := h
  obtain ⟨g1, l, g2⟩ := g
  exact ⟨g1.trans h1, k + l, fun i => by rw [g2, h2, Nat.add_assoc]⟩
theorem Ring.tn {m r : List Int} (h : Ring m r) : Tn m r := ⟨h.1, h.2.choose, h.2.choose_spec.2⟩
theorem ring_tn {u m r : List Int} (h : Tn u m) (g : Ring u r) : Ring m r := by
  obtain ⟨g1, s, g2, g3⟩ := g
  obtain ⟨h1, k, h2⟩ := h.symm
  refine ⟨g1.trans h1, k + s, fun t ht => ?_, fun i => by rw [g3, h2, Nat.add_assoc]⟩
  obtain ⟨_, l, h4⟩ := h
  obtain ⟨j, e1, e2⟩ := ht
  rw [Nat.add_assoc] at e2
  refine g2 (l + t) ⟨j, fun i hi => ?_, ?_⟩
  · have := e1 i hi
    rw [h4, Nat.add_assoc k, ← h2, ← Nat.add_assoc] at this
    exact this
  · rw [h4, ← h2, ← Nat.add_assoc] at e2
    exact e2
theorem ring_ex (m : List Int) : ∃ r, Ring m r := by
  by_cases hn : m.length = 0
  · have e1 : m = [] := List.eq_nil_of_length_eq_zero hn
    subst e1
    exact ⟨[], rfl, 0, fun t ⟨j, _, h⟩ => by unfold sq at h; simp at h, fun i => by rw [Nat.zero_add]⟩
  · obtain ⟨k, hk, h⟩ := exists_min (sq m) m.length (by omega)
    exact ⟨rot m k, ring_rot (by omega) (least_min (per_sq m) (by omega) h)⟩
theorem tn_of_ring {u m r : List Int} (h : Ring u r) (g : Ring m r) : Tn u m := h.tn.trans g.tn.symm
theorem ring_nil : Ring [] [] := ⟨rfl, 0, fun t ⟨j, _, h⟩ => by unfold sq at h; simp at h, fun i => by rw [Nat.zero_add]⟩
theorem Ring.self {m r : List Int} (h : Ring m r) : Ring r r := ring_tn h.tn h
/-! by the order of tuples -/
theorem lex_of : ∀ (x y : List Int) (j : Nat), x.length = y.length → j < x.length → (∀ i, i < j → x.getD i 0 = y.getD i 0) → x.getD j 0 < y.getD j 0 → HT.lexLt x y = true
  | [], _, j, _, h, _, _ => absurd h (Nat.not_lt_zero _)
  | _ :: _, [], j, h, _, _, _ => nomatch h
  | x :: xs, y :: ys, 0, _, _, _, h2 => by
    have h2 : x < y := h2
    rw [HT.lexLt_cons, if_neg (by omega)]
    exact decide_eq_true h2
  | x :: xs, y :: ys, j + 1, hl, hj, h1, h2 => by
    have h0 : x = y := h1 0 (by omega)
    rw [HT.lexLt_cons, if_pos h0]
    exact lex_of xs ys j (by simpa using hl) (by simpa using hj) (fun i hi => h1 (i + 1) (by omega)) h2
theorem least_lex {l : List Int} {k : Nat} (hk : k < l.length) (h : ∀ t, t < l.length → HT.lexLt (rot l t) (rot l k) = false) : Least (sq l) k := by
  refine least_min (per_sq l) (by omega) fun t ht ⟨j, h1, h2⟩ => ?_
  have hj : j < l.length := by
    refine Decidable.byContradiction fun q => ?_
    have e := h1 (j % l.length) (by have := Nat.mod_lt j (show 0 < l.length by omega); omega)
    have p := fun t => (per_sq l).mul (j / l.length) (t + j % l.length)
    have e1 : ∀ t, t + j % l.length + j / l.length * l.length = t + j := fun t => by have := Nat.mod_add_div j l.length; rw [Nat.mul_comm] at this; omega
    have p1 := p t
    have p2 := p k
    rw [e1] at p1 p2
    omega
  have := lex_of (rot l t) (rot l k) j (by rw [rot_len, rot_len]) (by rw [rot_len]; exact hj) (fun i hi => by rw [rot_at (by omega) (by omega), rot_at (by omega) (by omega)]; exact h1 i hi) (by rw [rot_at (by omega) (by omega), rot_at (by omega) (by omega)]; exact h2)
  rw [h t ht] at this
  cases this
end Rg

/-! cores and rings of words -/
namespace Rg
open Fr
def Cr (m : List Int) : Prop := m ≠ [] ∧ ∀ x y, m.getLast? = some x → m.head? = some y → x ≠ -y
def Spl (ns c m : List Int) : Prop := ns = c ++ m ++ opp c ∧ (ns = [] → c = [] ∧ m = []) ∧ (ns ≠ [] → Cr m)
theorem snoc_of {m : List Int} (h : m ≠ []) : ∃ t q, m = t ++ [q] := ⟨m.dropLast, m.getLast h, (List.dropLast_concat_getLast h).symm⟩
theorem nf_mid {a b c : List Int} (h : Nf (a ++ b ++ c)) : Nf b := nf_back (nf_front h)
theorem nf_cons {x : Int} {w : List Int} (hw : Nf w) (h : ∀ y, w.head? = some y → x ≠ -y) : Nf (x :: w) := by
  cases w with
  | nil => exact True.intro
  | cons y t => exact ⟨h y rfl, hw⟩
theorem nf_end {x : Int} {w : List Int} (hw : Nf w) (h : ∀ y, w.getLast? = some y → y ≠ -x) : Nf (w ++ [x]) := nf_join hw True.intro fun u v hu hv => by cases hv; exact h u hu
theorem last_snoc (t : List Int) (q : Int) : (t ++ [q]).getLast? = some q := by rw [List.getLast?_append]; rfl
theorem nf_jn {a b : List Int} {x y : Int} (hab : Nf (a ++ b)) (hx : a.getLast? = some x) (hy : b.head? = some y) : x ≠ -y := by
  have hne : a ≠ [] := fun q => by rw [q] at hx; cases hx
  obtain ⟨t, q, rfl⟩ := snoc_of hne
  rw [last_snoc] at hx
  cases hx
  cases b with
  | nil => cases hy
  | cons z b' =>
    cases hy
    rw [List.append_assoc] at hab
    exact (nf_back hab).1
theorem turn1 {w c m : List Int} (hw : Nf w) (s : w = c ++ m ++ opp c) (h : Cr m) (x : Int) : ∃ c' m', red ([x] ++ w ++ [-x]) = c' ++ m' ++ opp c' ∧ Cr m' ∧ Tn m m' := by
  have long : (∀ y, w.head? = some y → x ≠ -y) → (∀ y, w.getLast? = some y → y ≠ x) → ∃ c' m', red ([x] ++ w ++ [-x]) = c' ++ m' ++ opp c' ∧ Cr m' ∧ Tn m m' := fun h1 h2 => by
    have hne : w ≠ [] := fun q => by
      rw [q] at s
      have := congrArg List.length s
      simp only [List.length_append, List.length_nil] at this
      exact h.1 (List.eq_nil_of_length_eq_zero (by omega))
    refine ⟨x :: c, m, ?_, h, Tn.refl m⟩
    rw [red_id, opp_cons, s]
    · simp [List.append_assoc]
    · refine nf_end (w := x :: w) (nf_cons hw h1) fun y hy => ?_
      have : (x :: w).getLast? = w.getLast? := by
        cases w with
        | nil => exact absurd rfl hne
        | cons a b => rw [List.getLast?_cons_cons]
      rw [this] at hy
      have := h2 y hy
      omega
  cases c with
  | cons y c =>
    rw [opp_cons] at s
    by_cases q : x = -y
    · refine ⟨c, m, ?_, h, Tn.refl m⟩
      have e : [x] ++ w ++ [-x] = [] ++ x :: y :: ((c ++ m ++ opp c) ++ [-y, -x]) := by rw [s]; simp [List.append_assoc]
      rw [e, red_strike _ _ _ _ q]
      have e2 : [] ++ ((c ++ m ++ opp c) ++ [-y, -x]) = (c ++ m ++ opp c) ++ (-y) :: (-x) :: [] := rfl
      rw [e2, red_strike _ _ _ _ (by omega), List.append_nil]
      refine red_id ?_
      have : w = [y] ++ (c ++ m ++ opp c) ++ [-y] := by rw [s]; simp [List.append_assoc]
      rw [this] at hw
      exact nf_mid hw
    · refine long (fun z hz => ?_) fun z hz => ?_
      · rw [s] at hz; cases hz; exact q
      · rw [s, ← List.append_assoc, last_snoc] at hz; cases hz; omega
  | nil =>
    have s : w = m := by rw [s]; simp [opp]
    subst s
    obtain ⟨p, t, rfl⟩ : ∃ p t, w = p :: t := by
      cases w with
      | nil => exact absurd rfl h.1
      | cons a b => exact ⟨a, b, rfl⟩
    by_cases q : x = -p
    · refine ⟨[], t ++ [p], ?_, ⟨by simp, fun u v hu hv => ?_⟩, tn_rot (m := p :: t) (k := 1) (by simp)⟩
      · have e : [x] ++ (p :: t) ++ [-x] = [] ++ x :: p :: (t ++ [-x]) := rfl
        rw [e, red_strike _ _ _ _ q, List.nil_append, show -x = p by omega]
        have : Nf (t ++ [p]) := by
          refine nf_end hw.tail fun y hy => ?_
          refine h.2 y p ?_ rfl
          cases t with
          | nil => cases hy
          | cons a b => rw [List.getLast?_cons_cons]; exact hy
        rw [red_id this]
        simp [opp]
      · rw [last_snoc] at hu
        cases hu
        cases t with
        | nil => cases hv; exact h.2 p p rfl rfl
        | cons a b => cases hv; exact hw.1
    · obtain ⟨t2, z, e0⟩ := snoc_of h.1
      by_cases q2 : z = x
      · subst q2
        rw [e0] at hw h ⊢
        refine ⟨[], z :: t2, ?_, ⟨by simp, fun u v hu hv => ?_⟩, ?_⟩
        · have e : [z] ++ (t2 ++ [z]) ++ [-z] = (z :: t2) ++ z :: (-z) :: [] := by simp [List.append_assoc]
          rw [e, red_strike _ _ _ _ (by omega), List.append_nil]
          have : Nf (z :: t2) := nf_cons (nf_front hw) fun y hy => by
            refine h.2 z y (last_snoc _ _) ?_
            cases t2 with
            | nil => cases hy
            | cons a b => exact hy
          rw [red_id this]
          simp [opp]
        · cases hv
          cases t2 with
          | nil => cases hu; exact h.2 z z rfl rfl
          | cons a b =>
            rw [List.getLast?_cons_cons] at hu
            exact nf_jn hw hu rfl
        · have := tn_rot (m := t2 ++ [z]) (k := t2.length) (by simp)
          unfold rot at this
          rw [List.drop_left, List.take_left] at this
          exact this
      · refine long (fun y hy => ?_) fun y hy => ?_
        · cases hy; exact q
        · rw [e0, last_snoc] at hy; cases hy; exact q2
theorem spl_nil : Spl [] [] [] := ⟨rfl, fun _ => ⟨rfl, rfl⟩, fun q => absurd rfl q⟩
theorem spl_of {w c m : List Int} (s : w = c ++ m ++ opp c) (h : Cr m) : Spl w c m := ⟨s, fun q => by
  rw [q] at s
  have := congrArg List.length s
  simp only [List.length_append, List.length_nil] at this
  exact absurd (List.eq_nil_of_length_eq_zero (by omega)) h.1, fun _ => h⟩
theorem turn (w c m : List Int) (hw : Nf w) (s : Spl w c m) : ∀ by_ : List Int, ∃ c' m', Spl (red (by_ ++ w ++ opp by_)) c' m' ∧ Tn m m'
  | b => by
    by_cases hn : w = []
    · obtain ⟨rfl, rfl⟩ := s.2.1 hn
      subst hn
      rw [List.append_nil, red_opp_self]
      exact ⟨[], [], spl_nil, Tn.refl _⟩
    · suffices ∃ c' m', red (b ++ w ++ opp b) = c' ++ m' ++ opp c' ∧ Cr m' ∧ Tn m m' by
        obtain ⟨c', m', e1, e2, e3⟩ := this
        exact ⟨c', m', spl_of e1 e2, e3⟩
      induction b with
      | nil => exact ⟨c, m, by rw [show ([] : List Int) ++ w ++ opp [] = w by simp [opp], red_id hw]; exact s.1, s.2.2 hn, Tn.refl _⟩
      | cons x b ih =>
        obtain ⟨c', m', e1, e2, e3⟩ := ih
        obtain ⟨c2, m2, f1, f2, f3⟩ := turn1 (red_nf (b ++ w ++ opp b)) e1 e2 x
        refine ⟨c2, m2, ?_, f2, e3.trans f3⟩
        rw [← f1, opp_cons]
        have e : x :: b ++ w ++ (opp b ++ [-x]) = [x] ++ ((b ++ w ++ opp b) ++ [-x]) := by simp [List.append_assoc]
        rw [e, ← red_app_r, ← red_app_l (b ++ w ++ opp b), red_app_r, List.append_assoc [x]]
theorem spl_uniq : ∀ {c c' : List Int} {w m m' : List Int}, Spl w c m → Spl w c' m' → c = c' ∧ m = m' := fun {c} => by
  suffices ∀ {c' w m m' : List Int}, w = c ++ m ++ opp c → w = c' ++ m' ++ opp c' → Cr m → Cr m' → c = c' ∧ m = m' by
    intro c' w m m' s s'
    by_cases hn : w = []
    · obtain ⟨rfl, rfl⟩ := s.2.1 hn
      obtain ⟨rfl, rfl⟩ := s'.2.1 hn
      exact ⟨rfl, rfl⟩
    · exact this s.1 s'.1 (s.2.2 hn) (s'.2.2 hn)
  have bad : ∀ {x : Int} {c m : List Int}, Cr (x :: c ++ m ++ opp (x :: c)) → False := fun {x c m} h => by
    rw [opp_cons, ← List.append_assoc] at h
    exact h.2 (-x) x (last_snoc _ _) rfl rfl
  induction c with
  | nil =>
    intro c' w m m' s s' h h'
    have s : w = m := by rw [s]; simp [opp]
    subst s
    cases c' with
    | nil => exact ⟨rfl, by rw [s']; simp [opp]⟩
    | cons x c' => rw [s'] at h; exact (bad h).elim
  | cons x c ih =>
    intro c' w m m' s s' h h'
    cases c' with
    | nil =>
      have s' : w = m' := by rw [s']; simp [opp]
      subst s'
      rw [s] at h'
      exact (bad h').elim
    | cons y c' =>
      rw [s, opp_cons, opp_cons, ← List.append_assoc, ← List.append_assoc] at s'
      injection s' with e1 e2
      subst e1
      have e3 := List.append_inj_left' e2 rfl
      obtain ⟨rfl, rfl⟩ := ih rfl e3 h h'
      exact ⟨rfl, rfl⟩
/-- the ring of a word -/
def RingW (w r : List Int) : Prop := ∃ c m, Spl w c m ∧ Ring m r
theorem ringw_uniq {w r q : List Int} (h : RingW w r) (g : RingW w q) : r = q := by
  obtain ⟨c, m, h1, h2⟩ := h
  obtain ⟨c', m', g1, g2⟩ := g
  obtain ⟨rfl, rfl⟩ := spl_uniq h1 g1
  exact ring_uniq h2 g2
theorem ringw_turn {w r : List Int} (hw : Nf w) (h : RingW w r) (b : List Int) : RingW (red (b ++ w ++ opp b)) r := by
  obtain ⟨c, m, h1, h2⟩ := h
  obtain ⟨c', m', g1, g2⟩ := turn w c m hw h1 b
  exact ⟨c', m', g1, ring_tn g2 h2⟩
theorem opp_last (m : List Int) : (opp m).getLast? = m.head?.map fun e => -e := by
  cases m with
  | nil => rfl
  | cons a b => rw [opp_cons, last_snoc]; rfl
theorem opp_head (m : List Int) : (opp m).head? = m.getLast?.map fun e => -e := by
  by_cases hn : m = []
  · subst hn; rfl
  · obtain ⟨t, q, rfl⟩ := snoc_of hn
    rw [opp_app, last_snoc]
    rfl
theorem cr_opp {m : List Int} (h : Cr m) : Cr (opp m) := by
  refine ⟨fun q => h.1 (by have := congrArg opp q; rw [opp_opp] at this; exact this), fun x y hx hy => ?_⟩
  rw [opp_last] at hx
  rw [opp_head] at hy
  cases h1 : m.head? with
  | none => rw [h1] at hx; cases hx
  | some a =>
    cases h2 : m.getLast? with
    | none => rw [h2] at hy; cases hy
    | some b =>
      rw [h1] at hx
      rw [h2] at hy
      cases hx
      cases hy
      have := h.2 b a h2 h1
      show -a ≠ - -b
      omega
theorem spl_opp {w c m : List Int} (s : Spl w c m) : Spl (opp w) c (opp m) := by
  by_cases hn : w = []
  · obtain ⟨rfl, rfl⟩ := s.2.1 hn
    subst hn
    exact spl_nil
  · refine spl_of ?_ (cr_opp (s.2.2 hn))
    rw [s.1, opp_app, opp_app, opp_opp, List.append_assoc]
theorem opp_at {m : List Int} {i : Nat} (hi : i < m.length) : (opp m).getD i 0 = - m.getD (m.length - 1 - i) 0 := by
  rw [List.getD_eq_getElem?_getD]
  unfold opp
  rw [List.getElem?_reverse (by rw [List.length_map]; exact hi), List.length_map, List.getElem?_map, N0.getD_of (by omega)]
  rfl
theorem no_back {m : List Int} (hn : Nf m) (hz : ∀ e, e ∈ m → e ≠ 0) (h : Tn m (opp m)) : m = [] := by
  refine Decidable.byContradiction fun hne => ?_
  have hp : 0 < m.length := List.length_pos_iff.mpr hne
  obtain ⟨_, k, h⟩ := h
  have hk := Nat.mod_lt k hp
  have h : ∀ i, i < m.length → - m.getD (m.length - 1 - i) 0 = sq m (k % m.length + i) := fun i hi => by
    have := h i
    rw [show sq (opp m) i = (opp m).getD i 0 from sq_self (by rw [opp_len]; exact hi), opp_at hi] at this
    rw [this, (per_sq m).mod]
  rcases Nat.mod_two_eq_zero_or_one (m.length - 1 - k % m.length) with q | q
  · have := h ((m.length - 1 - k % m.length) / 2) (by omega)
    rw [sq_self (by omega)] at this
    have e : k % m.length + (m.length - 1 - k % m.length) / 2 = m.length - 1 - (m.length - 1 - k % m.length) / 2 := by omega
    rw [e] at this
    exact hz _ (List.mem_of_getElem? (N0.getD_of (ns := m) (j := m.length - 1 - (m.length - 1 - k % m.length) / 2) (by omega))) (by omega)
  · have := h ((m.length - 2 - k % m.length) / 2) (by omega)
    rw [sq_self (by omega)] at this
    have e : m.length - 1 - (m.length - 2 - k % m.length) / 2 = k % m.length + (m.length - 2 - k % m.length) / 2 + 1 := by omega
    rw [e] at this
    exact N0.nf_at hn (k % m.length + (m.length - 2 - k % m.length) / 2) (by omega) this.symm
theorem spl_empty {w c m : List Int} (s : Spl w c m) (h : m = []) : w = [] := Decidable.byContradiction fun q => (s.2.2 q).1 h
theorem ringw_back {w r : List Int} (hn : Nf w) (hz : ∀ e, e ∈ w → e ≠ 0) (h : RingW w r) (g : RingW (opp w) r) : w = [] := by
  obtain ⟨c, m, h1, h2⟩ := h
  obtain ⟨c', m', g1, g2⟩ := g
  obtain ⟨rfl, rfl⟩ := spl_uniq g1 (spl_opp h1)
  refine spl_empty h1 (no_back (nf_mid (h1.1 ▸ hn)) (fun e he => hz e (by rw [h1.1]; simp [he])) (tn_of_ring h2 g2))
theorem rep_at (l : List Int) : ∀ n i, i < n * l.length → (rep l n).getD i 0 = l.getD (i % l.length) 0
  | 0, i, h => by omega
  | n + 1, i, h => by
    show (rep l n ++ l).getD i 0 = _
    rw [Nat.succ_mul] at h
    rw [List.getD_eq_getElem?_getD]
    by_cases q : i < n * l.length
    · rw [List.getElem?_append_left (by rw [rep_len]; exact q), ← List.getD_eq_getElem?_getD, rep_at l n i q]
    · rw [List.getElem?_append_right (by rw [rep_len]; omega), rep_len, ← List.getD_eq_getElem?_getD]
      have e : i = (i - n * l.length) + n * l.length := by omega
      have e2 : i % l.length = i - n * l.length := by
        rw [e, Nat.add_mul_mod_self_right, Nat.mod_eq_of_lt (by omega)]
        omega
      rw [e2]
theorem sq_rep (l : List Int) (n : Nat) : sq (rep l (n + 1)) = sq l := by
  funext i
  unfold sq
  by_cases hn : l = []
  · subst hn; rw [rep_nil]
  · have hp : 0 < l.length := List.length_pos_iff.mpr hn
    have : 0 < (n + 1) * l.length := Nat.mul_pos (by omega) hp
    rw [rep_at l (n + 1) _ (by rw [rep_len]; exact Nat.mod_lt _ this), rep_len, Nat.mod_mod_of_dvd _ ⟨n + 1, Nat.mul_comm _ _⟩]
theorem ring_rep {m r : List Int} (h : Ring m r) (n : Nat) : Ring (rep m (n + 1)) (rep r (n + 1)) := by
  obtain ⟨h1, s, h2, h3⟩ := h
  refine ⟨by rw [rep_len, rep_len, h1], s, ?_, fun i => ?_⟩
  · rw [sq_rep]; exact h2
  · rw [sq_rep, sq_rep]; exact h3 i
theorem rep_ends {m : List Int} (h : Cr m) (n : Nat) : Cr (rep m (n + 1)) := by
  obtain ⟨t, z, e⟩ := snoc_of h.1
  have hz : m.getLast? = some z := by rw [e]; exact last_snoc _ _
  obtain ⟨p, hp⟩ : ∃ p, m.head? = some p := by
    cases m with
    | nil => exact absurd rfl h.1
    | cons a b => exact ⟨a, rfl⟩
  refine ⟨fun q => ?_, fun x y hx hy => ?_⟩
  · have := head_rep hp n
    rw [q] at this
    cases this
  · rw [last_rep hz n] at hx
    rw [head_rep hp n] at hy
    cases hx
    cases hy
    exact h.2 z p hz hp
theorem ringw_rep {w r : List Int} (hw : Nf w) (h : RingW w r) (n : Nat) : RingW (red (rep w (n + 1))) (rep r (n + 1)) := by
  obtain ⟨c, m, h1, h2⟩ := h
  by_cases hn : w = []
  · obtain ⟨rfl, rfl⟩ := h1.2.1 hn
    subst hn
    refine ⟨[], [], by rw [rep_nil]; exact spl_nil, ?_⟩
    have := ring_rep h2 n
    rw [rep_nil] at this
    exact this
  · have hm := h1.2.2 hn
    have e := red_pow (h1.1 ▸ hw) hm.1 hm.2 n
    rw [← h1.1] at e
    rw [e]
    exact ⟨c, rep m (n + 1), spl_of rfl (rep_ends hm n), ring_rep h2 n⟩
theorem cr_rot {m : List Int} (hn : Nf m) (h : Cr m) (k : Nat) (hk : k < m.length) : Nf (rot m k) ∧ Cr (rot m k) := by
  unfold rot
  have e := List.take_append_drop k m
  have hb : m.drop k ≠ [] := fun q => by have := congrArg List.length q; rw [List.length_drop] at this; simp at this; omega
  generalize m.take k = a at e
  generalize m.drop k = b at e hb
  subst e
  cases a with
  | nil => rw [List.append_nil]; exact ⟨hn, h⟩
  | cons p a =>
    obtain ⟨t, z, rfl⟩ := snoc_of hb
    refine ⟨nf_join (nf_back hn) (nf_front hn) fun x y hx hy => ?_, by simp, fun x y hx hy => ?_⟩
    · exact h.2 x y (by rw [List.getLast?_append, hx]; rfl) hy
    · rw [List.getLast?_append] at hx
      have hy : (t ++ [z]).head? = some y := by
        rw [List.head?_append] at hy
        cases t with
        | nil => exact hy
        | cons u v => exact hy
      refine nf_jn hn ?_ hy
      cases q : (p :: a).getLast? with
      | none => cases a <;> simp at q
      | some v => rw [q] at hx; exact hx
theorem ring_is {m r : List Int} (h : Ring m r) : m = [] ∧ r = [] ∨ ∃ k, k < m.length ∧ r = rot m k := by
  by_cases hn : m.length = 0
  · have e1 : m = [] := List.eq_nil_of_length_eq_zero hn
    exact .inl ⟨e1, List.eq_nil_of_length_eq_zero (h.1.trans hn)⟩
  · obtain ⟨k, hk, g⟩ := exists_min (sq m) m.length (by omega)
    exact .inr ⟨k, hk, ring_uniq h (ring_rot (by omega) (least_min (per_sq m) (by omega) g))⟩
theorem mem_rot {m : List Int} {k : Nat} {e : Int} (h : e ∈ rot m k) : e ∈ m := by
  unfold rot at h
  rw [List.mem_append] at h
  exact h.elim List.mem_of_mem_drop List.mem_of_mem_take
/-- the ring of a word is a word, and its own ring -/
theorem ringw_self {w r : List Int} (hw : Nf w) (h : RingW w r) : Nf r ∧ RingW r r ∧ (∀ e, e ∈ r → e ∈ w) ∧ r.length ≤ w.length := by
  obtain ⟨c, m, h1, h2⟩ := h
  have hl := congrArg List.length h1.1
  rw [List.length_append, List.length_append] at hl
  have hl2 := h2.1
  rcases ring_is h2 with ⟨rfl, rfl⟩ | ⟨k, hk, rfl⟩
  · exact ⟨True.intro, ⟨[], [], spl_nil, h2⟩, (fun e he => nomatch he), Nat.zero_le _⟩
  · have hn : w ≠ [] := fun q => by
      obtain ⟨_, rfl⟩ := h1.2.1 q
      simp at hk
    obtain ⟨e1, e2⟩ := cr_rot (nf_mid (h1.1 ▸ hw)) (h1.2.2 hn) k hk
    exact ⟨e1, ⟨[], _, spl_of (by simp [opp]) e2, h2.self⟩, fun e he => by rw [h1.1]; simp [mem_rot he], by omega⟩
/-- the word between -/
theorem between_ok {one other c1 m1 c2 m2 : List Int} {k : Nat} (s1 : Spl one c1 m1) (s2 : Spl other c2 m2) (hn : Nf other) (h : rot m1 k = m2) :
    red (red (c2 ++ opp (m1.take k) ++ opp c1) ++ one ++ opp (red (c2 ++ opp (m1.take k) ++ opp c1))) = other := by
  generalize eA : c2 ++ opp (m1.take k) ++ opp c1 = A
  have : red (red A ++ one ++ opp (red A)) = red (A ++ one ++ opp A) := by
    rw [opp_red, red_app_r, List.append_assoc, red_app_l, ← List.append_assoc]
  rw [this, ← eA, s1.1, ← red_id hn, s2.1, ← h]
  have e := (List.take_append_drop k m1).symm
  unfold rot
  generalize m1.take k = t at e ⊢
  generalize m1.drop k = d at e ⊢
  rw [e]
  refine red_congr ?_
  have n0 : Nf (act c2 []) := Nf.of_act c2
  simp only [opp_app, opp_opp, act_app]
  rw [opp_act c1 (act_nf _ n0), opp_act t n0, opp_act c1 (act_nf _ n0)]
theorem rot_rot {m : List Int} {i j : Nat} {u : List Int} (hm : m ≠ []) (hi : i < m.length) (hj : j < u.length) (hl : u.length = m.length) (h : rot m i = rot u j) (k : Nat) (hk : (k : Int) = ((i : Int) - (j : Int)) % (m.length : Int)) : rot m k = u := by
  have hp : 0 < m.length := List.length_pos_iff.mpr hm
  have hk2 : k < m.length := by
    have := Int.emod_lt_of_pos ((i : Int) - j) (show (0 : Int) < m.length by omega)
    omega
  have hk3 : k + j = i ∨ k + j = i + m.length := by
    by_cases q : j ≤ i
    · left
      have : ((i : Int) - j) % (m.length : Int) = (i : Int) - j := Int.emod_eq_of_lt (by omega) (by omega)
      omega
    · right
      have : ((i : Int) - j) % (m.length : Int) = (i : Int) - j + m.length := by
        rw [← Int.add_emod_right]
        exact Int.emod_eq_of_lt (by omega) (by omega)
      omega
  have hs : ∀ z, sq m (i + z) = sq u (j + z) := fun z => by rw [← rot_sq (by omega) z, h, rot_sq (by omega) z]
  have hs2 : ∀ z, sq m (k + j + z) = sq u (j + z) := fun z => by
    rcases hk3 with q | q
    · rw [q]; exact hs z
    · rw [q, show i + m.length + z = i + z + m.length by omega, per_sq m]; exact hs z
  refine list_ext (by rw [rot_len, hl]) fun z hz => ?_
  rw [rot_len] at hz
  rw [rot_at (by omega) hz, ← sq_self (by omega : z < u.length)]
  by_cases q : j ≤ z
  · have := hs2 (z - j)
    rw [show k + j + (z - j) = k + z by omega, show j + (z - j) = z by omega] at this
    exact this
  · have := hs2 (z + m.length - j)
    rw [show k + j + (z + m.length - j) = k + z + m.length by omega, per_sq m, show j + (z + m.length - j) = z + u.length by omega, per_sq u] at this
    exact this
end Rg

namespace N0
open PySem PySem.Spec PyProof.Rows L2 HT
/-! the least of a list of tuples of numbers -/
section
variable {K : PySem.W.Frag} {X : Cx}
def tupD (ns : List Int) : PyData := .tuple (ns.map .int)
def rMinT (K : PySem.W.Frag) : List V → Hp → VK → Prop := fun vs H Q => ∃ (a : Addr) (xs : List V) (ts : List (List Int)), vs = [V.ref a] ∧ SqL K H a xs ∧ DpAll K H xs (ts.map tupD) ∧ 0 < ts.length ∧
  ∀ (i : Nat) (v : V) (ns : List Int), xs[i]? = some v → ts[i]? = some ns → (∀ ms, ms ∈ ts → HT.lexLt ms ns = false) → Q v H
theorem listLt_lex : ∀ x y : List Int, PySem.W.listLt x y = HT.lexLt x y
  | [], [] => rfl
  | [], _ :: _ => rfl
  | _ :: _, [] => rfl
  | x :: xs, y :: ys => by
    show (if x = y then PySem.W.listLt xs ys else decide (x < y)) = if x = y then HT.lexLt xs ys else decide (x < y)
    rw [listLt_lex]
theorem minOf_spec {α : Type} [DecidableEq α] [PySem.W.DatumOrd α] : ∀ (x : α) (xs : List α), PySem.W.minOf x xs ∈ x :: xs := fun x xs => by
  unfold PySem.W.minOf
  induction xs generalizing x with
  | nil => exact List.mem_singleton_self x
  | cons y ys ih =>
    rw [List.foldl_cons]
    by_cases h : PySem.W.DatumOrd.lt y x = true
    · rw [if_pos h]
      exact List.mem_cons_of_mem _ (ih y)
    · rw [if_neg h]
      have := ih x
      rw [List.mem_cons] at this ⊢
      rcases this with q | q
      · exact .inl q
      · exact .inr (List.mem_cons_of_mem _ q)
theorem lex_irr : ∀ x : List Int, HT.lexLt x x = false
  | [] => rfl
  | x :: xs => by rw [HT.lexLt_cons, if_pos rfl, lex_irr]
theorem lex_asy : ∀ x y : List Int, HT.lexLt x y = true → HT.lexLt y x = false
  | [], [], h => by cases h
  | [], _ :: _, _ => rfl
  | _ :: _, [], h => by cases h
  | x :: xs, y :: ys, h => by
    rw [HT.lexLt_cons] at h ⊢
    by_cases q : x = y
    · rw [if_pos q] at h
      rw [if_pos q.symm]
      exact lex_asy xs ys h
    · rw [if_neg q] at h
      rw [if_neg (Ne.symm q)]
      have := of_decide_eq_true h
      exact decide_eq_false (by omega)
theorem lex_ntr : ∀ x y z : List Int, HT.lexLt x y = false → HT.lexLt y z = false → HT.lexLt x z = false
  | [], [], z, _, h => h
  | [], _ :: _, _, h, _ => by cases h
  | _ :: _, _, [], _, _ => rfl
  | _ :: _, [], _ :: _, _, h => by cases h
  | x :: xs, y :: ys, z :: zs, h1, h2 => by
    rw [HT.lexLt_cons] at h1 h2 ⊢
    by_cases q1 : x = y
    · rw [if_pos q1] at h1
      by_cases q2 : y = z
      · rw [if_pos q2] at h2
        rw [if_pos (q1.trans q2)]
        exact lex_ntr xs ys zs h1 h2
      · rw [if_neg q2] at h2
        subst q1
        rw [if_neg q2]
        exact h2
    · rw [if_neg q1] at h1
      have := of_decide_eq_false h1
      by_cases q2 : y = z
      · subst q2
        rw [if_neg q1]
        exact h1
      · rw [if_neg q2] at h2
        have := of_decide_eq_false h2
        rw [if_neg (by omega)]
        exact decide_eq_false (by omega)
theorem min_fold (lt : List Int → List Int → Bool) (hl : lt = HT.lexLt) : ∀ (x : List Int) (xs : List (List Int)), (∀ m, m ∈ x :: xs → HT.lexLt m (xs.foldl (fun a y => if lt y a = true then y else a) x) = false) := by
  subst hl
  intro x xs
  induction xs generalizing x with
  | nil =>
    intro m hm
    rw [List.mem_singleton] at hm
    subst hm
    exact lex_irr m
  | cons y ys ih =>
    intro m hm
    rw [List.foldl_cons]
    by_cases h : HT.lexLt y x = true
    · rw [if_pos h]
      rcases List.mem_cons.mp hm with q | q
      · subst q
        exact lex_ntr _ _ _ (lex_asy _ _ h) (ih y y List.mem_cons_self)
      · exact ih y m q
    · rw [if_neg h]
      have h : HT.lexLt y x = false := by cases e : HT.lexLt y x with | true => exact absurd e h | false => rfl
      rcases List.mem_cons.mp hm with q | q
      · subst q
        exact ih m m List.mem_cons_self
      · rcases List.mem_cons.mp q with q | q
        · subst q
          exact lex_ntr _ _ _ h (ih x x List.mem_cons_self)
        · exact ih x m (List.mem_cons_of_mem _ q)
theorem map_int_inj : ∀ x y : List Int, x.map PyData.int = y.map PyData.int → x = y
  | [], [], _ => rfl
  | [], _ :: _, h => nomatch h
  | _ :: _, [], h => nomatch h
  | x :: xs, y :: ys, h => by
    rw [List.map_cons, List.map_cons] at h
    injection h with h1 h2
    injection h1 with h3
    rw [h3, map_int_inj xs ys h2]
theorem minOf_items (x : List Int) (xs : List (List Int)) : (PySem.W.minOf (PySem.W.Tup.mk x) (xs.map PySem.W.Tup.mk)).items = xs.foldl (fun a y => if HT.lexLt y a = true then y else a) x := by
  unfold PySem.W.minOf
  induction xs generalizing x with
  | nil => rfl
  | cons y ys ih =>
    rw [List.map_cons, List.foldl_cons, List.foldl_cons]
    have e : PySem.W.DatumOrd.lt (PySem.W.Tup.mk y) (PySem.W.Tup.mk x) = HT.lexLt y x := listLt_lex y x
    rw [e]
    by_cases h : HT.lexLt y x = true
    · rw [if_pos h, if_pos h]; exact ih y
    · rw [if_neg h, if_neg h]; exact ih x
theorem canLay_tup (ns : List Int) : (tupD ns).canLay0 = true := canLay_ints ns
theorem vals_at : ∀ {xs : List V} {us : List Value} {i : Nat} {u : Value}, Vals xs us → us[i]? = some u → ∃ v, xs[i]? = some v ∧ RelV v u := fun {xs us i u} h hu => by
  induction h generalizing i with
  | nil => cases hu
  | cons r t ih =>
    cases i with
    | zero => cases hu; exact ⟨_, rfl, r⟩
    | succ i => exact ih hu
theorem cr_minT (hc : X.calm = true) (hu : X.A.units + 64 < cLine) : CallR X (.builtin "min") (rMinT X.K) := by
  intro pins s σ H vs us Q I r h
  obtain ⟨a, xs, ts, rfl, hs, hd, hp, q⟩ := h
  obtain ⟨its, rv, hl, _⟩ := I.list hs
  rw [Vals.ref1 r]
  obtain ⟨as, ra⟩ := Dp.readsAll I _ _ _ hd rv
  cases ts with
  | nil => exact absurd hp (Nat.lt_irrefl _)
  | cons t0 ts =>
    have e0 : (t0 :: ts).map tupD = ((PySem.W.Tup.mk t0) :: ts.map PySem.W.Tup.mk).map PySem.W.Datum.toD := by
      rw [List.map_cons, List.map_cons, List.map_map]
      rfl
    refine PySem.W.min_list_datum (α := PySem.W.Tup Int) (I.ok.hd hc) hl.isList ⟨as, by rw [← e0]; exact ra⟩ (by show X.A.units + 1 + (0 + 1) < cLine; omega) fun i v h' tk hi hv hk => ?_
    obtain ⟨y, hy, ry⟩ := vals_at rv (by rw [← Array.getElem?_toList] at hi; exact hi)
    obtain ⟨bs, rb, hlt, _, _⟩ := PySem.W.readsAll_atA (vs := its.toArray) ra i v hi
    obtain ⟨cs, rc⟩ := hv
    rw [List.length_map] at hlt
    have hg : ((t0 :: ts).map tupD).getD i .none = tupD ((t0 :: ts).getD i []) := by
      rw [List.getD_eq_getElem?_getD, List.getD_eq_getElem?_getD, List.getElem?_map, List.getElem?_eq_getElem hlt]
      rfl
    rw [hg] at rb
    have hu := PySem.SeqAt.Reads.unique _ _ v _ _ (canLay_tup _) (Reads.keeps hk rb) rc
    have hm := minOf_items t0 ts
    refine ⟨y, H, I.kept hk, ry, q i y ((t0 :: ts).getD i []) hy (by rw [List.getD_eq_getElem?_getD, List.getElem?_eq_getElem hlt]; rfl) fun ms hms => ?_⟩
    have he : (t0 :: ts).getD i [] = ts.foldl (fun a y => if HT.lexLt y a = true then y else a) t0 := by
      have h2 : tupD ((t0 :: ts).getD i []) = tupD (PySem.W.minOf (PySem.W.Tup.mk t0) (ts.map PySem.W.Tup.mk)).items := hu
      rw [hm] at h2
      injection h2 with h3
      exact map_int_inj _ _ h3
    rw [he]
    exact min_fold _ rfl t0 ts ms hms
theorem kcr_minT (hc : X.calm = true) (hu : X.A.units + 64 < cLine) (h : X.K = K := by rfl) : CallR X (.builtin "min") (rMinT K) := h ▸ cr_minT hc hu
end
end N0

namespace N0
open PySem PySem.Spec PyProof.Rows L2 HT
/-! displays of data, and statements that compare them -/
section
variable {K : PySem.W.Frag} {H H1 : Hp} {σ : L2.St}
theorem same_lst {a : Addr} {xs : List V} (e : Same H H1) (h : SqL K H a xs) : SqL K H1 a xs := (Rs.same (S := none) True.intro e).lst (fun q => nomatch q) h
mutual
theorem dp_same (e : Same H H1) : ∀ (d : PyData) (v : V), Dp K H v d → Dp K H1 v d
  | .none, _, .non => .non
  | .bool _, _, .bl b => .bl b
  | .int _, _, .int i => .int i
  | .str _, _, .str x => .str x
  | .list ds, _, .lst h t => .lst (same_lst e h) (dpa_same e ds _ t)
  | .tuple ds, _, .tup h t => .tup (same_tup e h) (dpa_same e ds _ t)
theorem dpa_same (e : Same H H1) : ∀ (ds : List PyData) (vs : List V), DpAll K H vs ds → DpAll K H1 vs ds
  | [], _, .nil => .nil
  | d :: ds, _, .cons h t => .cons (dp_same e d _ h) (dpa_same e ds _ t)
end
theorem dpa_len : ∀ {vs : List V} {ds : List PyData}, DpAll K H vs ds → vs.length = ds.length
  | _, _, .nil => rfl
  | _, _, .cons _ t => congrArg (· + 1) (dpa_len t)
theorem dp_int_inv {v : V} {i : Int} (h : Dp K H v (.int i)) : v = .int i := by cases h; rfl
theorem dpa_ints : ∀ {vs : List V} {ns : List Int}, DpAll K H vs (ns.map .int) → vs = ns.map V.int
  | vs, [], h => by cases h; rfl
  | vs, n :: ns, h => by
    cases h with
    | cons h t => rw [dp_int_inv h, dpa_ints t]; rfl
abbrev IsD (K : PySem.W.Frag) (d : PyData) : V → Hp → Prop := fun v H => Dp K H v d
def EvD (K : PySem.W.Frag) (ta : TA) (σ : L2.St) (H : Hp) (ds : List PyData) : Prop := ∀ H1, Same H H1 → ∀ Q : List V → Hp → Prop, (∀ vs H2, Same H1 H2 → DpAll K H2 vs ds → Q vs H2) → ta σ H1 Q
theorem ed0 : EvD K tNil σ H [] := fun H1 e Q q => q [] H1 (Same.refl _) .nil
theorem edc {te : TE} {ta : TA} {d : PyData} {ds : List PyData} (h : EvS te σ H (IsD K d)) (h2 : EvD K ta σ H ds) : EvD K (tCons te ta) σ H (d :: ds) := fun H1 e Q q =>
  h H1 e _ fun v H2 e2 hv => h2 H2 (Same.trans e e2) _ fun vs H3 e3 hvs => q _ _ (Same.trans e2 e3) (.cons (dp_same e3 _ _ hv) hvs)
theorem es_tup {ta : TA} {ds : List PyData} (h : EvD K ta σ H ds) (hl : ds.length ≤ 1000) : EvS (tTup ta) σ H (IsD K (.tuple ds)) := fun H1 e Q q =>
  h H1 e _ fun vs H2 e2 hvs => ⟨Nat.le_of_lt (small1000 (by rw [dpa_len hvs]; omega)), fun p hp => q _ _ (Same.trans e2 (new_same hp)) (.tup (tup_of upd_same) (dpa_same (new_same hp) _ _ hvs))⟩
theorem es_lst {ta : TA} {ds : List PyData} (h : EvD K ta σ H ds) (hl : ds.length ≤ 1000) : EvS (tLst ta) σ H (IsD K (.list ds)) := fun H1 e Q q =>
  h H1 e _ fun vs H2 e2 hvs => ⟨Nat.le_of_lt (small1000 (by rw [dpa_len hvs]; omega)), fun p hp => q _ _ (Same.trans e2 (new_same hp)) (.lst (lst_of upd_same) (dpa_same (new_same hp) _ _ hvs))⟩
theorem es_int (i : Int) : EvS (tC (.int i)) σ H (IsD K (.int i)) := evs_c fun _ _ => .int i
theorem es_bl (b : Bool) : EvS (tC (.bl b)) σ H (IsD K (.bool b)) := evs_c fun _ _ => .bl b
theorem es_neg (i : Int) : EvS (tUn (rU fun i => V.int (-i)) (tC (.int i))) σ H (IsD K (.int (-i))) := fun H1 e Q q => ⟨i, rfl, q _ _ (Same.refl _) (.int (-i))⟩
/-- a display of numbers is a row of numbers -/
theorem es_row {te : TE} (ns : List Int) (h : EvS te σ H (IsD K (.tuple (ns.map .int)))) : EvS te σ H (IsI K ns) := fun H1 e Q q => h H1 e _ fun v H2 e2 hv => by
  cases hv with
  | tup ha hd => rw [dpa_ints hd] at ha; exact q _ _ e2 ⟨_, rfl, ha⟩
theorem row_es {te : TE} {ns : List Int} (h : EvS te σ H (IsI K ns)) : EvS te σ H (IsD K (.tuple (ns.map .int))) := fun H1 e Q q => h H1 e _ fun v H2 e2 ⟨a, ev, ha⟩ => q v H2 e2 (ev ▸ dp_tup ha)
theorem es_var {i : Nat} {v : V} {d : PyData} (hv : σ[i]? = some (some v)) (h : Dp K H v d) : EvS (tVar i) σ H (IsD K d) := evs_var hv fun H1 e => dp_same e _ _ h
theorem ifne_seq {ta tb : TE} {t x : TS} {D : Ends} {d e : PyData} (h1 : EvS ta σ H (IsD K d)) (h2 : EvS tb σ H (IsD K e)) (s1 : SeqAt.shaped d = true) (s2 : SeqAt.shaped e = true) (he : PyData.eqv d e = true) (rest : ∀ H', Same H H' → x D σ H') :
    tSeq (tIfS (tTest (tOp (rNeD K) ta tb)) t tNext) x D σ H :=
  h1 H (Same.refl _) _ fun v H1 e1 hv => h2 H1 e1 _ fun u H2 e2 hu => ⟨d, e, dp_same e2 _ _ hv, hu, s1, s2, _, rfl, by rw [he]; exact rest _ (Same.trans e1 e2)⟩
theorem ifne2_seq {ta tb tc td : TE} {t x : TS} {D : Ends} {d e d' e' : PyData} (h1 : EvS ta σ H (IsD K d)) (h2 : EvS tb σ H (IsD K e)) (s1 : SeqAt.shaped d = true) (s2 : SeqAt.shaped e = true) (he : PyData.eqv d e = true)
    (g1 : EvS tc σ H (IsD K d')) (g2 : EvS td σ H (IsD K e')) (q1 : SeqAt.shaped d' = true) (q2 : SeqAt.shaped e' = true) (qe : PyData.eqv d' e' = true) (rest : ∀ H', Same H H' → x D σ H') :
    tSeq (tIfS (tOr (tTest (tOp (rNeD K) ta tb)) (tTest (tOp (rNeD K) tc td))) t tNext) x D σ H :=
  h1 H (Same.refl _) _ fun v H1 e1 hv => h2 H1 e1 _ fun u H2 e2 hu => ⟨d, e, dp_same e2 _ _ hv, hu, s1, s2, _, rfl, by
    rw [he]
    exact g1 H2 (Same.trans e1 e2) _ fun v' H3 e3 hv' => g2 H3 (Same.trans (Same.trans e1 e2) e3) _ fun u' H4 e4 hu' => ⟨d', e', dp_same e4 _ _ hv', hu', q1, q2, _, rfl, by rw [qe]; exact rest _ (Same.trans (Same.trans (Same.trans e1 e2) e3) e4)⟩⟩
theorem asg_seq {te : TE} {i : Nat} {x : TS} {D : Ends} {P : V → Hp → Prop} (h : EvS te σ H P) (rest : ∀ v H', Same H H' → P v H' → x D (σ.set i (some v)) H') : tSeq (tAsg te (gName i)) x D σ H :=
  h H (Same.refl _) _ fun v H1 e1 hv => rest v H1 e1 hv
/-- a condition of which it is known what it gives -/
def EvB (t : TT) (σ : L2.St) (H : Hp) (b : Bool) : Prop := ∀ H1, Same H H1 → ∀ Q : Bool → Hp → Prop, (∀ H2, Same H1 H2 → Q b H2) → t σ H1 Q
theorem ifno_seq {c : TT} {t x : TS} {D : Ends} (h : EvB c σ H false) (rest : ∀ H', Same H H' → x D σ H') : tSeq (tIfS c t tNext) x D σ H := h H (Same.refl _) _ fun H2 e => rest H2 e
theorem eb_or {c d : TT} (h : EvB c σ H false) (g : EvB d σ H false) : EvB (tOr c d) σ H false := fun H1 e Q q => h H1 e _ fun H2 e2 => g H2 (Same.trans e e2) _ fun H3 e3 => q H3 (Same.trans e2 e3)
theorem eb_b {te : TE} {b : Bool} (h : EvS te σ H fun v _ => v = .bl b) : EvB (tB te) σ H b := fun H1 e Q q => h H1 e _ fun v H2 e2 ev => ⟨b, ev, q H2 e2⟩
theorem knotIn {X : Cx} (h : X.K = K := by rfl) : OpR X (compareOp .NotIn) (rIn K true) := h ▸ op_notIn_seq
end
end N0

namespace N0
open PySem PySem.Spec PyProof.Rows L2 HT GenW
/-! generators: if, for -/
section
variable {X : Cx}
def tGIf (c : TT) (t u : TGn) : TGn := fun D ys σ H => c σ H fun b H1 => if b = true then t D ys σ H1 else u D ys σ H1
theorem gs_if {test : Expr} {a b : List Stmt} {pos : Pos} {tc : TT} {t u : TGn} (hc : PT X test tc) (ha : GSs X a t) (hb : GSs X b u) : GS X (.If test a b pos) (tGIf tc t u) := by
  refine ⟨fun A S ip R n ys s₀ c fs K J gd lv s σ H D g hn k hI ht => ?_⟩
  obtain ⟨acc, cc, r, I⟩ := hI
  rw [exec_If]
  show Seg _ _ _ _ _ _ _ (.at pos fun _ => ((isTrue test X.env (eval test X.env)) >>= fun z => if z = true then execs a X.env else execs b X.env).wrap K J gd lv) _ _
  refine seg_at ?_
  rw [Sem.bind_eq_wrap', Sem.wrap_wrap]
  refine seg_wrap ?_
  rw [g.over]
  refine wpAny_mono (hc.run _ s σ H _ I ht) (fun z s' hz => ?_) fun x s' hx => k.exc n s₀ x s' hx
  obtain ⟨H2, I2, q2⟩ := hz
  cases z with
  | true =>
    have q2 : t D ys σ H2 := q2
    exact ha.run A S ip R n ys s₀ c fs K J gd lv s' σ H2 D g hn k ⟨acc, cc, r, I2⟩ q2
  | false =>
    have q2 : u D ys σ H2 := q2
    exact hb.run A S ip R n ys s₀ c fs K J gd lv s' σ H2 D g hn k ⟨acc, cc, r, I2⟩ q2
end
section
variable {prog : Program} {w : World} {A : Around} {R : GenEnd} {Y : Protocol} {n : Nat} {s₀ : Shared} {fs : List Frame} {s : Shared} {env : Env}
theorem seg_forLoop {target : Expr} {it : Value} {body : List Stmt}
    (h : wpAny (model prog w) (A.over (.forLoop target it body [] env) fs) (pyNext it) (fun r s1 => match r with
        | none => Seg (model prog w) A R Y n s₀ (.forLoop target it body [] env) (.pure (.again (.block [] env))) fs s1
        | some v => wpAny (model prog w) (A.over (.forLoop target it body [] env) fs) (letOwnedTupleGo target it v) (fun _ s2 => wpAny (model prog w) (A.over (.forLoop target it body [] env) fs) (assign target env v) (fun _ s3 =>
          Seg (model prog w) A R Y n s₀ (.forLoop target it body [] env) ((execs body env).wrap (fun f => match f with
            | .next | .cont => .pure (.again (.forLoop target it body [] env))
            | .brk => .pure (.done .next)
            | .ret v => .pure (.done (.ret v))) (fun e => (do noteFrame e env; theTreesLotGoes e : Sem Unit).wrap (fun _ => .raise e) .raise id id) id id) fs s3)
          (fun x s' => Seg (model prog w) A R Y n s₀ (.forLoop target it body [] env) ((do noteFrame x env; theTreesLotGoes x : Sem Unit).wrap (fun _ => .raise x) .raise id id) fs s') s2)
          (fun x s' => Seg (model prog w) A R Y n s₀ (.forLoop target it body [] env) ((do noteFrame x env; theTreesLotGoes x : Sem Unit).wrap (fun _ => .raise x) .raise id id) fs s') s1)
      (fun x s' => Seg (model prog w) A R Y n s₀ (.forLoop target it body [] env) ((do noteFrame x env; theTreesLotGoes x : Sem Unit).wrap (fun _ => .raise x) .raise id id) fs s') s) :
    Seg (model prog w) A R Y n s₀ (.forLoop target it body [] env) ((model prog w).den (.forLoop target it body [] env)) fs s := by
  show Seg _ A R Y n s₀ _ ((forTurn target it body [] env).onRaise (fun x => do noteFrame x env; theTreesLotGoes x)) fs s
  unfold forTurn
  rw [Sem.onRaise_eq_wrap, Sem.bind_eq_wrap', Sem.wrap_wrap]
  refine seg_wrap (wpAny_standAt ?_)
  rw [Sem.bind_eq_wrap', Sem.wrap_wrap]
  refine seg_wrap (wpAny_onRaise (wpAny_mono h (fun r s1 h1 => ?_) fun x s' hx => wpAny_standAt ?_))
  · cases r with
    | none => exact h1
    | some v =>
      dsimp only at h1 ⊢
      rw [Sem.bind_eq_wrap', Sem.wrap_wrap]
      refine seg_wrap (wpAny_mono h1 (fun _ s2 h2 => ?_) fun x s' hx => ?_)
      · rw [Sem.bind_eq_wrap', Sem.wrap_wrap]
        refine seg_wrap (wpAny_mono h2 (fun _ s3 h3 => ?_) fun x s' hx => ?_)
        · rw [Sem.bind_eq_wrap', Sem.wrap_wrap]
          rw [Sem.wrap_congr (execs body env) _ _ (K' := fun f => match f with
            | .next | .cont => .pure (.again (.forLoop target it body [] env))
            | .brk => .pure (.done .next)
            | .ret v => .pure (.done (.ret v))) (H' := (fun e => (do noteFrame e env; theTreesLotGoes e : Sem Unit).wrap (fun _ => .raise e) .raise id id))
            (fun f => by cases f <;> rfl)
            (fun e => by first | exact Sem.bind_eq_wrap _ _ | (show (do noteFrame e env; theTreesLotGoes e : Sem Unit).bind (fun _ => .raise e) = _; rw [Sem.bind_eq_wrap]))]
          exact h3
        · rw [← Sem.bind_eq_wrap] at hx
          exact hx
      · rw [← Sem.bind_eq_wrap] at hx
        exact hx
  · rw [← Sem.bind_eq_wrap] at hx
    exact hx
end
section
variable {X : Cx}
def tGFor (wi : TI) (gt : TG) (tb : TGn) : TGn := fun D ys σ H => wi σ H fun J H1 => ∃ W : Nat → Nat → List V → L2.St → Hp → Prop, (∃ m, W 0 m ys σ H1) ∧ ∀ i m ys σ H, W i m ys σ H →
  (J.stop i H ∧ D.nx ys σ H) ∨ (J.go i H ∧ ∃ N : List V → L2.St → Hp → Prop, (∀ ys' σ' H', N ys' σ' H' → ∃ m', m' < m ∧ W (i + 1) m' ys' σ' H') ∧ ∀ x H', J.yld i H x H' → gt x σ H' fun σ2 H2 => tb { D with nx := N, ct := N, bk := D.nx } ys σ2 H2)
theorem gs_for {tg iter : Expr} {body : List Stmt} {pos : Pos} {wi : TI} {gt : TG} {tb : TGn} (hp : PassesOwn (model X.prog X.w) X.A X.env X.xe) (hc : X.calm = true) (hi : PI X tg iter wi) (hg : PG X tg gt) (hb : GSs X body tb)
    (hs : ∀ x, foldedSetIterable iter X.env x = pure x := by intro _; rfl) : GS X (.For tg iter body [] pos) (tGFor wi gt tb) := by
  refine ⟨fun A S ip R n ys s₀ c fs K J gd lv s σ H D g hn k hI ht => ?_⟩
  obtain ⟨acc, cc, r, I⟩ := hI
  rw [exec_For]
  show Seg _ _ _ _ _ _ _ (.at pos fun _ => ((eval iter X.env) >>= fun v => (foldedSetIterable iter X.env v) >>= fun x => (standAt iter.pos >>= fun _ => (holding [x] (pyIter x) >>= fun it => runOwn (.forLoop tg it body [] X.env) X.env))).wrap K J gd lv) _ _
  refine seg_at ?_
  rw [Sem.bind_eq_wrap', Sem.wrap_wrap]
  refine seg_wrap ?_
  rw [g.over]
  refine wpAny_mono (hi.run _ s σ H _ I ht) (fun v s1 h1 => ?_) fun x s' hx => k.exc n s₀ x s' hx
  rw [hs v]
  show Seg _ _ _ _ _ _ _ (.at iter.pos fun _ => ((holding [v] (pyIter v)) >>= fun it => runOwn (.forLoop tg it body [] X.env) X.env).wrap K J gd lv) _ _
  refine seg_at ?_
  rw [Sem.bind_eq_wrap', Sem.wrap_wrap]
  refine seg_wrap ?_
  rw [g.over]
  refine wpAny_holding (wpAny_mono h1 (fun itv s2 h2 => ?_) fun x s' hx => k.exc n s₀ x s' hx)
  obtain ⟨it, fp, tn, Jt, H2, rfl, I2, T, st2, f2, W, ⟨m0, w0⟩, turn⟩ := h2
  refine seg_call fun p => ?_
  have gl := fun (kk : Result → Sem PySem.Fin) => gc_loop (k := kk) (c' := .forLoop tg (.ref it) body [] X.env) (l := lv []) (kp := []) (p := p) g rfl rfl
  have stat : ∀ {acc' : Array Value} {cc' : Nat} {H' : Hp}, (∀ b ∈ fp, H' b = none) → ∀ b ∈ fp, FpOk X ((S, lstObj acc' cc') :: ip) H' b := fun {acc' cc' H'} hn b hb => by
    obtain ⟨_, y1, y2, y3, y4, y5⟩ := f2 b hb
    refine ⟨hn b hb, y1, y2, y3, y4, fun q hq => ?_⟩
    rcases List.mem_append.mp hq with hq | hq
    · exact y5 q (List.mem_append_left _ hq)
    · rcases List.mem_cons.mp hq with hq | hq
      · rw [hq]; exact y5 (S, lstObj acc cc) (List.mem_append_right _ List.mem_cons_self)
      · exact y5 q (List.mem_append_right _ (List.mem_cons_of_mem _ hq))
  have loop : ∀ (m n i : Nat) (ys : List V) (s₀ s : Shared) (σ : L2.St) (H : Hp), n + ys.length = sizeLine → W i m ys σ H → GI X S ip ys σ H s → tn i s.heap → (∀ b ∈ fp, H b = none) →
      Seg (model X.prog X.w) A R (GY X S) n s₀ (.forLoop tg (.ref it) body [] X.env) ((model X.prog X.w).den (.forLoop tg (.ref it) body [] X.env))
        (.ret (fun r => ((match r with | .ok f => (.pure f : Sem Flow) | .error e => .raise e).onRaise (cameBack X.env)).wrap K J gd lv) none (gd false) (lv []) c p [] :: fs) s := by
    intro m
    induction m using Nat.strongRecOn with
    | ind m ih =>
      intro n i ys s₀ s σ H hn w hI st fr
      have ee : ∀ (n : Nat) (s₀ : Shared) (x : Value) (s' : Shared), X.xe x s' → Seg (model X.prog X.w) A R (GY X S) n s₀ (.forLoop tg (.ref it) body [] X.env)
          ((do noteFrame x X.env; theTreesLotGoes x : Sem Unit).wrap (fun _ => .raise x) .raise id id)
          (.ret (fun r => ((match r with | .ok f => (.pure f : Sem Flow) | .error e => .raise e).onRaise (cameBack X.env)).wrap K J gd lv) none (gd false) (lv []) c p [] :: fs) s' := fun n s₀ x s' hx => by
        refine seg_wrap ?_
        rw [(gl _).over]
        refine wpAny_bind (wpAny_mono (hp x s' hx) (fun _ s'' hcb => wpAny_theTreesLotGoes ?_) fun y s'' hcb => ?_)
        · exact seg_leaf (.error x) (seg_cameBack g k hcb)
        · exact seg_leaf (.error y) (seg_cameBack g k hcb)
      refine seg_forLoop ?_
      rw [(gl _).over]
      obtain ⟨acc, cc, r, I⟩ := hI
      rcases turn i m ys σ H w with ⟨stop, qn⟩ | ⟨go, N, hN, step⟩
      · refine wpAny_mono (T.done X rfl rfl rfl hc i _ s σ H X.xe I (stat fr) st stop) (fun rr s4 h4 => ?_) fun x s' hx => ee n s₀ x s' hx
        obtain ⟨hr, I4⟩ := h4
        subst hr
        refine seg_again rfl ?_
        exact seg_leaf (.ok .next) (k.ok n ys s₀ s4 .next hn ⟨σ, H, ⟨acc, cc, r, I4⟩, qn⟩)
      · refine wpAny_mono (T.item X rfl rfl rfl hc i _ s σ H X.xe I (stat fr) st go) (fun rr s4 h4 => ?_) fun x s' hx => ee n s₀ x s' hx
        obtain ⟨u, hr, h4⟩ := h4
        subst hr
        refine wpAny_mono h4 (fun _ s5 h5 => ?_) fun x s' hx => ee n s₀ x s' hx
        obtain ⟨x, H5, I5, r5, y5, st5, fr5⟩ := h5
        have I5' := I5.pinned (stat fr5) (T.obj _ _ st5)
        refine wpAny_mono (hg.run _ s5 σ H5 x u _ I5' r5 (step x H5 y5)) (fun _ s6 h6 => ?_) fun x s' hx => ee n s₀ x s' hx
        obtain ⟨σ6, H6, I6, q6⟩ := h6
        have ipne : ∀ q ∈ ip ++ pinsAt fp s5.heap, q.1 ≠ S := fun q hq => by
          rcases List.mem_append.mp hq with hq | hq
          · exact g.ip q hq
          · obtain ⟨hb', _⟩ := of_pinsAt hq
            obtain ⟨_, _, _, _, _, y5⟩ := f2 q.1 hb'
            exact fun z => y5 _ (List.mem_append_right _ List.mem_cons_self) z.symm
        have g' : ∀ kk : Result → Sem PySem.Fin, GC X S (ip ++ pinsAt fp s5.heap) A (.forLoop tg (.ref it) body [] X.env) (.ret kk none (gd false) (lv []) c p [] :: fs) id := fun kk =>
          { gl kk with ip := ipne }
        refine hb.run A S (ip ++ pinsAt fp s5.heap) R n ys s₀ _ _ _ _ id id s6 σ6 H6 { D with nx := N, ct := N, bk := D.nx } (g' _) hn ⟨fun n' ys' s₀' s7 f hn' hs' => ?_, fun n' s₀' x s3 hx => ee n' s₀' x s3 hx⟩ ⟨acc, cc, r, I6⟩ q6
        have again : ∀ {σ7 : L2.St} {H7 : Hp}, GI X S (ip ++ pinsAt fp s5.heap) ys' σ7 H7 s7 → N ys' σ7 H7 → Seg (model X.prog X.w) A R (GY X S) n' s₀' (.forLoop tg (.ref it) body [] X.env) (.pure (.again (.forLoop tg (.ref it) body [] X.env)))
            (.ret (fun r => ((match r with | .ok f => (.pure f : Sem Flow) | .error e => .raise e).onRaise (cameBack X.env)).wrap K J gd lv) none (gd false) (lv []) c p [] :: fs) s7 := fun {σ7 H7} I7 n7 => by
          obtain ⟨acc7, c7, r7, I7⟩ := I7
          obtain ⟨m', hm, w7⟩ := hN ys' σ7 H7 n7
          have I7p : Inv X (((S, lstObj acc7 c7) :: ip) ++ pinsAt fp s5.heap) σ7 H7 s7 := I7
          have pn : ∀ b ∈ fp, ∀ o, s5.heap.get? b = some o → _ := fun b hb' o e => I7p.pin (b, o) (List.mem_append_right _ (List.mem_append_right _ (mem_pinsAt hb' e)))
          refine seg_again rfl (ih m' hm n' (i + 1) ys' s₀' s7 σ7 H7 hn' w7 ⟨acc7, c7, r7, I7p.unpinned⟩ (T.keep _ _ _ st5 fun b hb' o e => (pn b hb' o e).1) fun b hb' => ?_)
          obtain ⟨o, e, d⟩ := T.obj _ _ st5 b hb'
          exact (pn b hb' o e).2.1
        have out : ∀ {ys7 : List V} {σ7 : L2.St} {H7 : Hp}, GI X S (ip ++ pinsAt fp s5.heap) ys7 σ7 H7 s7 → GI X S ip ys7 σ7 H7 s7 := fun {ys7 σ7 H7} I7 => by
          obtain ⟨acc7, c7, r7, I7⟩ := I7
          have I7p : Inv X (((S, lstObj acc7 c7) :: ip) ++ pinsAt fp s5.heap) σ7 H7 s7 := I7
          exact ⟨acc7, c7, r7, I7p.unpinned⟩
        cases f with
        | next => obtain ⟨σ7, H7, I7, n7⟩ := hs'; exact again I7 n7
        | cont => obtain ⟨σ7, H7, I7, n7⟩ := hs'; exact again I7 n7
        | brk =>
          obtain ⟨σ7, H7, I7, q7⟩ := hs'
          exact seg_leaf (.ok .next) (k.ok n' ys' s₀' s7 .next hn' ⟨σ7, H7, out I7, q7⟩)
        | ret v =>
          obtain ⟨x7, σ7, H7, I7, r7, q7⟩ := hs'
          exact seg_leaf (.ok (.ret v)) (k.ok n' ys' s₀' s7 (.ret v) hn' ⟨x7, σ7, H7, out I7, r7, q7⟩)
  exact loop m0 n 0 ys s₀ s2 σ H2 hn w0 ⟨acc, cc, r, I2⟩ st2 fun b hb' => (f2 b hb').1
end
theorem passC {X : Cx} : Passes (CX X.prog X.w) X E0 := fun _ _ _ _ _ _ _ h => by
  obtain ⟨a, B, H', cls, d, z1, fl, z2, ub, z3, z4, z5, z6⟩ := h
  first | exact z1.elim | exact z2.elim | exact z3.elim | exact z4.elim | exact z6.elim
/-- a generator def that is there by its name -/
structure GCl (P : Program) (w : World) (K : PySem.W.Frag) (mg : Str → Option Value) (base : Heap) (k : Nat) (x : Str) (sp : SpG) : Prop where
  ex : ∃ (f : Addr) (fd : FuncData) (ps : List Str), GFn P w K mg base k f fd ps sp ∧ mg x = some (.ref f) ∧ PySem.W.keepIn K (.ref f) = true ∧ Binds K fd ps []
section
variable {X : Cx} {x : Str} {k j : Nat} {sp : SpG} {e : Expr} {es : List Expr} {t : TA} {p p2 pos pos' : Pos}
/-- list(f(e, ..)), f a generator def -/
theorem pe_listC (c : GCl X.prog X.w X.K X.mg X.base k x sp) (hr : Room j X.A) (hk : k + 3 ≤ j) (hg : Gl X x) (ha : PA X (e :: es) t) (hgl : Gl X "list") (hml : X.mg "list" = none) (hdb : (x == ("__debug__" : Str)) = false := by decide)
    (he : starEach (e :: es) X.env = (false, eval e X.env) :: starEach es X.env := by rfl) (hpl : (backTo pos' (starEach es X.env)).any (·.1) = false := by rfl)
    (he2 : starEach [.Call (.Name x p2) (e :: es) [] pos'] X.env = (false, eval (.Call (.Name x p2) (e :: es) [] pos') X.env) :: starEach [] X.env := by rfl) :
    PE X (.Call (.Name "list" p) [.Call (.Name x p2) (e :: es) [] pos'] [] pos) (tListG (tCallG sp [] E0 t)) := by
  obtain ⟨f, fd, ps, F, hm, kp, hb⟩ := c.ex
  exact pe_listG (pgen_call (dvs := []) (ds := []) F (hr.mono (by omega)) hg hm kp hb .nil ha hdb he hpl) passC (fun _ _ _ h => h.elim) (hr.mono hk) hgl hml bo_list
end
theorem gcl_of {P : Program} {w : World} {K : PySem.W.Frag} {mg : Str → Option Value} {base : Heap} {x qual : Str} {st : Stmt} {f : Addr} {fd : FuncData} {N ps : List Str} {k : Nat} {sp : SpG} (F : Fun K x qual st f fd) (S : GScope N ps (defScope st)) (hm : mg x = some (.ref f)) (hb : Binds K fd ps [])
    (len : ∀ vs H Q E, sp vs H Q E → vs.length = ps.length)
    (hbody : ∀ (cdv : Value) (A : Around) (outer : List Env) (s : Shared) (H : Hp) (vs : List V) (Q : List V → Hp → Prop) (E : XK) (pn : List (Addr × Obj)), Room k (A.deeper (envOfC qual (defScope st) s.heap.objs.size f cdv)) → sp vs H Q E →
      ∃ t, GSs (gcxOf P w K mg base N qual (defScope st) f cdv A outer s H E pn) (defBody st) t ∧ t { nx := fun ys _ H' => Q ys H', rt := fun ys v H' => v = .non ∧ Q ys H' } [] (start N vs) H) : GCl P w K mg base (k + 1) x sp := by
  obtain ⟨oc, od, kV, doc, pm, an, cdv, ct, osl, rfl, lk, hcd⟩ := F.ex
  exact ⟨f, _, ps, gfn_of lk hcd S len (fun A outer s H vs Q E pn hr hsp => hbody cdv A outer s H vs Q E pn hr hsp), hm, F.kp, hb⟩
section
end
end N0

/-! what terms give, said by value: conditions, numbers, rows, branches -/
namespace N0
open PySem PySem.Spec PyProof.Rows L2 HT
section
variable {K : PySem.W.Frag} {σ : L2.St} {H : Hp}
abbrev IsV (u : V) : V → Hp → Prop := fun v _ => v = u
theorem eb_test {te : TE} {b : Bool} (h : EvS te σ H (IsV (.bl b))) : EvB (tTest te) σ H b := fun H1 e Q q => h H1 e _ fun v H2 e2 ev => ⟨b, ev, q H2 e2⟩
theorem eb_bt {te : TE} {b : Bool} (h : EvS te σ H (IsV (.bl b))) : EvB (tB te) σ H b := fun H1 e Q q => h H1 e _ fun v H2 e2 ev => ⟨b, ev, q H2 e2⟩
theorem eb_and2 {c d : TT} {a b : Bool} (h : EvB c σ H a) (g : a = true → EvB d σ H b) : EvB (tAnd c d) σ H (a && b) := fun H1 e Q q => h H1 e _ fun H2 e2 => by
  cases a with
  | false => exact q H2 e2
  | true => exact g rfl H2 (Same.trans e e2) _ fun H3 e3 => q H3 (Same.trans e2 e3)
theorem eb_or2 {c d : TT} {a b : Bool} (h : EvB c σ H a) (g : a = false → EvB d σ H b) : EvB (tOr c d) σ H (a || b) := fun H1 e Q q => h H1 e _ fun H2 e2 => by
  cases a with
  | true => exact q H2 e2
  | false => exact g rfl H2 (Same.trans e e2) _ fun H3 e3 => q H3 (Same.trans e2 e3)
theorem eb_not {c : TT} {a : Bool} (h : EvB c σ H a) : EvB (tNot c) σ H (!a) := fun H1 e Q q => h H1 e _ fun H2 e2 => q H2 e2
theorem eb_as {c : TT} {a b : Bool} (h : EvB c σ H a) (e : a = b) : EvB c σ H b := e ▸ h
theorem es_as {te : TE} {u v : V} (h : EvS te σ H (IsV u)) (e : u = v) : EvS te σ H (IsV v) := e ▸ h
theorem es_vV {i : Nat} {v : V} (hv : σ[i]? = some (some v)) : EvS (tVar i) σ H (IsV v) := fun H1 e Q q => ⟨v, hv, q v H1 (Same.refl _) rfl⟩
theorem es_cV {v : V} : EvS (tC v) σ H (IsV v) := fun H1 e Q q => q v H1 (Same.refl _) rfl
theorem es_i0 {f : Int → Int → V} {ta tb : TE} {i j : Int} (ha : EvS ta σ H (IsV (.int i))) (hb : EvS tb σ H (IsV (.int j))) : EvS (tOp (rI0 f) ta tb) σ H (IsV (f i j)) := fun H1 e Q q =>
  ha H1 e _ fun x H2 e2 hx => hb H2 (Same.trans e e2) _ fun y H3 e3 hy => ⟨i, j, hx, hy, q _ _ (Same.trans e2 e3) rfl⟩
theorem es_u {f : Int → V} {ta : TE} {i : Int} (ha : EvS ta σ H (IsV (.int i))) : EvS (tUn (rU f) ta) σ H (IsV (f i)) := fun H1 e Q q =>
  ha H1 e _ fun x H2 e2 hx => ⟨i, hx, q _ _ e2 rfl⟩
theorem es_eqI {ta tb : TE} {i j : Int} (ha : EvS ta σ H (IsV (.int i))) (hb : EvS tb σ H (IsV (.int j))) : EvS (tOp rEq ta tb) σ H (IsV (.bl (decide (i = j)))) := fun H1 e Q q =>
  ha H1 e _ fun x H2 e2 hx => hb H2 (Same.trans e e2) _ fun y H3 e3 hy => by
    subst hx hy
    refine ⟨rfl, q _ _ (Same.trans e2 e3) ?_⟩
    rw [dec_int]
    rfl
theorem es_neI {ta tb : TE} {i j : Int} (ha : EvS ta σ H (IsV (.int i))) (hb : EvS tb σ H (IsV (.int j))) : EvS (tOp rNe ta tb) σ H (IsV (.bl (!decide (i = j)))) := fun H1 e Q q =>
  ha H1 e _ fun x H2 e2 hx => hb H2 (Same.trans e e2) _ fun y H3 e3 hy => by
    subst hx hy
    refine ⟨rfl, q _ _ (Same.trans e2 e3) ?_⟩
    rw [dec_int]
    rfl
theorem es_vT {i : Nat} {a : Addr} {ns : List Int} (hv : σ[i]? = some (some (.ref a))) (h : SqT K H a (ns.map V.int)) : EvS (tVar i) σ H (IsI K ns) := evs_var hv fun H1 e => ⟨a, rfl, same_tup e h⟩
theorem es_t0 : EvS (tTup tNil) σ H (IsI K []) := fun H1 e Q q => ⟨Nat.zero_le _, fun p hp => q _ _ (new_same hp) ⟨p, rfl, tup_of upd_same⟩⟩
theorem es_t1 {ta : TE} {i : Int} (ha : EvS ta σ H (IsV (.int i))) : EvS (tTup (tCons ta tNil)) σ H (IsI K [i]) := fun H1 e Q q =>
  ha H1 e _ fun x H2 e2 hx => ⟨by show 1 ≤ sizeLine; decide, fun p hp => q _ _ (Same.trans e2 (new_same hp)) ⟨p, rfl, by rw [hx]; exact tup_of upd_same⟩⟩
theorem es_eqT {ta tb : TE} {ns ms : List Int} (ha : EvS ta σ H (IsI K ns)) (hb : EvS tb σ H (IsI K ms)) : EvS (tOp (rEqD K) ta tb) σ H (IsV (.bl (decide (ns = ms)))) := fun H1 e Q q =>
  ha H1 e _ fun x H2 e2 ⟨a, ea, hx⟩ => hb H2 (Same.trans e e2) _ fun y H3 e3 ⟨b, eb, hy⟩ => by
    subst ea eb
    exact eq_tup (same_tup e3 hx) hy (q _ _ (Same.trans e2 e3) rfl)
theorem es_neT {ta tb : TE} {ns ms : List Int} (ha : EvS ta σ H (IsI K ns)) (hb : EvS tb σ H (IsI K ms)) : EvS (tOp (rNeD K) ta tb) σ H (IsV (.bl (!decide (ns = ms)))) := fun H1 e Q q =>
  ha H1 e _ fun x H2 e2 ⟨a, ea, hx⟩ => hb H2 (Same.trans e e2) _ fun y H3 e3 ⟨b, eb, hy⟩ => by
    subst ea eb
    exact ne_tup (same_tup e3 hx) hy (q _ _ (Same.trans e2 e3) rfl)
theorem es_ixT {ta ti : TE} {ns : List Int} {i x : Int} (ha : EvS ta σ H (IsI K ns)) (hi : EvS ti σ H (IsV (.int i))) (hx : atI (ns.map V.int) i = some (.int x)) : EvS (tOp (rIxT K) ta ti) σ H (IsV (.int x)) := fun H1 e Q q =>
  ha H1 e _ fun v H2 e2 ⟨a, ea, h⟩ => hi H2 (Same.trans e e2) _ fun y H3 e3 hy => ⟨a, _, i, .int x, ea, hy, same_tup e3 h, hx, q _ _ (Same.trans e2 e3) rfl⟩
theorem es_lenT {ta : TE} {ns : List Int} (ha : EvS ta σ H (IsI K ns)) : EvS (tCB (N0.rLen K) (tCons ta tNil)) σ H (IsV (.int (ns.length : Int))) := fun H1 e Q q =>
  ha H1 e _ fun v H2 e2 ⟨a, ea, h⟩ => ⟨a, _, by rw [ea], .inr h, q _ _ e2 (by rw [List.length_map])⟩
theorem es_cat {ta tb : TE} {ns ms : List Int} (ha : EvS ta σ H (IsI K ns)) (hb : EvS tb σ H (IsI K ms)) (hz : ns.length + ms.length ≤ 100000) : EvS (tOp (rCatA K) ta tb) σ H (IsI K (ns ++ ms)) := fun H1 e Q q =>
  ha H1 e _ fun v H2 e2 ⟨a, ea, h⟩ => hb H2 (Same.trans e e2) _ fun u H3 e3 ⟨b, eb, h2⟩ => by
    subst ea eb
    exact cat_ints (same_tup e3 h) h2 hz fun H' p e4 h4 => q _ _ (Same.trans (Same.trans e2 e3) e4) ⟨p, rfl, h4⟩
theorem es_if {c : TT} {ta tb : TE} {b : Bool} {P : V → Hp → Prop} (h : EvB c σ H b) (h1 : b = true → EvS ta σ H P) (h2 : b = false → EvS tb σ H P) : EvS (tIf c ta tb) σ H P := fun H1 e Q q => h H1 e _ fun H2 e2 => by
  cases b with
  | true => exact h1 rfl H2 (Same.trans e e2) _ fun v H3 e3 hv => q v H3 (Same.trans e2 e3) hv
  | false => exact h2 rfl H2 (Same.trans e e2) _ fun v H3 e3 hv => q v H3 (Same.trans e2 e3) hv
theorem ifs_b {c : TT} {t u x : TS} {D : Ends} {b : Bool} (h : EvB c σ H b) (h1 : b = true → ∀ H', Same H H' → t { D with nx := x D } σ H') (h2 : b = false → ∀ H', Same H H' → u { D with nx := x D } σ H') : tSeq (tIfS c t u) x D σ H := h H (Same.refl _) _ fun H2 e2 => by
  cases b with
  | true => exact h1 rfl H2 e2
  | false => exact h2 rfl H2 e2
theorem ifs_1 {c : TT} {t u : TS} {D : Ends} {b : Bool} (h : EvB c σ H b) (h1 : b = true → ∀ H', Same H H' → t D σ H') (h2 : b = false → ∀ H', Same H H' → u D σ H') : tIfS c t u D σ H := h H (Same.refl _) _ fun H2 e2 => by
  cases b with
  | true => exact h1 rfl H2 e2
  | false => exact h2 rfl H2 e2
theorem gif_b {c : TT} {t u : TGn} {D : GEnds} {ys : List V} {b : Bool} (h : EvB c σ H b) (h1 : b = true → ∀ H', Same H H' → t D ys σ H') (h2 : b = false → ∀ H', Same H H' → u D ys σ H') : tGIf c t u D ys σ H := h H (Same.refl _) _ fun H2 e2 => by
  cases b with
  | true => exact h1 rfl H2 e2
  | false => exact h2 rfl H2 e2
/-- what a pair of a row and of a number is -/
theorem es_pair {ta tb : TE} {P Pb : V → Hp → Prop} (hP : ∀ v H H1, Same H H1 → P v H → P v H1) (hPb : ∀ v H H1, Same H H1 → Pb v H → Pb v H1) (ha : EvS ta σ H P) (hb : EvS tb σ H Pb) :
    EvS (tTup (tCons ta (tCons tb tNil))) σ H fun v H' => ∃ t x y, v = .ref t ∧ SqT K H' t [x, y] ∧ P x H' ∧ Pb y H' := fun H1 e Q q =>
  ha H1 e _ fun x H2 e2 hx => hb H2 (Same.trans e e2) _ fun y H3 e3 hy => ⟨by show 2 ≤ sizeLine; decide, fun p hp => q _ _ (Same.trans (Same.trans e2 e3) (new_same hp)) ⟨p, x, y, rfl, tup_of upd_same, hP _ _ _ (Same.trans e3 (new_same hp)) hx, hPb _ _ _ (new_same hp) hy⟩⟩
theorem drop_app {i : Nat} {l : Addr} {te : TE} {P : V → Hp → Prop} {ys : List V} {D : Ends} (hv : σ[i]? = some (some (.ref l))) (hl : H l = some (.lst ys)) (hz : ys.length ≤ 100000) (h : EvS te σ H P) (rest : ∀ v H', Same H H' → H' l = some (.lst ys) → P v H' → D.nx σ (upd H' l (.lst (ys ++ [v])))) : tDrop (tBM K "list" rAppend (tVar i) (tCons te tNil)) D σ H :=
  ⟨.ref l, hv, .inl ⟨rfl, ys, lst_of hl⟩, h H (Same.refl _) _ fun v H' e hv => ⟨l, ys, v, rfl, rfl, e _ _ hl, Nat.lt_of_le_of_lt hz (by decide), rest v H' e (e _ _ hl) hv⟩⟩
/-- `if c: x.append(e)` and the like: a statement alone as the last one -/
theorem seq_last {t : TS} {D : Ends} (h : t { D with nx := D.nx } σ H) : tSeq t tNext D σ H := h
theorem gfor_list {a : Addr} {xs ys : List V} {g : TG} {tb : TGn} {D : GEnds} (Pv : Nat → List V → L2.St → Hp → Prop) (h0 : Pv 0 ys σ H) (hl : ∀ i ys σ H, i ≤ xs.length → Pv i ys σ H → SqL K H a xs)
    (hs : ∀ i x ys σ H, xs[i]? = some x → Pv i ys σ H → g x σ H fun σ2 H2 => tb { D with nx := Pv (i + 1), ct := Pv (i + 1), bk := D.nx } ys σ2 H2) (hd : ∀ ys σ H, Pv xs.length ys σ H → D.nx ys σ H) :
    ∃ W : Nat → Nat → List V → L2.St → Hp → Prop, (∃ m, W 0 m ys σ H) ∧ ∀ i m ys σ H, W i m ys σ H →
      ((Itl K a).stop i H ∧ D.nx ys σ H) ∨ ((Itl K a).go i H ∧ ∃ N : List V → L2.St → Hp → Prop, (∀ ys' σ' H', N ys' σ' H' → ∃ m', m' < m ∧ W (i + 1) m' ys' σ' H') ∧ ∀ x H', (Itl K a).yld i H x H' → g x σ H' fun σ2 H2 => tb { D with nx := N, ct := N, bk := D.nx } ys σ2 H2) := by
  refine ⟨fun i m ys σ H => m = xs.length - i ∧ i ≤ xs.length ∧ Pv i ys σ H, ⟨xs.length, by simp, Nat.zero_le _, h0⟩, ?_⟩
  rintro i m ys σ H ⟨rfl, hi, p⟩
  have q := hl i ys σ H hi p
  by_cases hlt : i < xs.length
  · refine .inr ⟨⟨xs, xs[i], q, by simp [hlt]⟩, Pv (i + 1), fun ys' σ' H' p' => ⟨xs.length - (i + 1), by omega, rfl, hlt, p'⟩, fun x H' y => ?_⟩
    obtain ⟨e, y⟩ := y
    subst e
    exact hs i x ys σ _ (y xs q) p
  · have e : i = xs.length := by omega
    subst e
    exact .inl ⟨⟨xs, q, Nat.le_refl _⟩, hd ys σ H p⟩
theorem es_modI {ta tb : TE} {i j : Int} (ha : EvS ta σ H (IsV (.int i))) (hb : EvS tb σ H (IsV (.int j))) (hj : 0 < j) : EvS (tOp (rI (fun _ j => 0 < j) fun i j => V.int (i % j)) ta tb) σ H (IsV (.int (i % j))) := fun H1 e Q q =>
  ha H1 e _ fun x H2 e2 hx => hb H2 (Same.trans e e2) _ fun y H3 e3 hy => ⟨i, j, hx, hy, hj, q _ _ (Same.trans e2 e3) rfl⟩
theorem es_lstN {ta : TA} {ds : List PyData} (h : EvD K ta σ H ds) (hl : ds.length ≤ 1000) : EvS (tLst ta) σ H (fun v H' => ∃ l vs, v = .ref l ∧ H' l = some (.lst vs) ∧ DpAll K H' vs ds ∧ H l = none) := fun H1 e Q q =>
  h H1 e _ fun vs H2 e2 hvs => ⟨Nat.le_of_lt (small1000 (by rw [dpa_len hvs]; omega)), fun p hp => q _ _ (Same.trans e2 (new_same hp)) ⟨p, vs, rfl, upd_same, dpa_same (new_same hp) _ _ hvs, Same.free e (Same.free e2 hp)⟩⟩
theorem es_eqD {ta tb : TE} {d e : PyData} (ha : EvS ta σ H (IsD K d)) (hb : EvS tb σ H (IsD K e)) (s1 : SeqAt.shaped d = true) (s2 : SeqAt.shaped e = true) : EvS (tOp (rEqD K) ta tb) σ H (IsV (.bl (PyData.eqv d e))) := fun H1 q1 Q q =>
  ha H1 q1 _ fun x H2 e2 hx => hb H2 (Same.trans q1 e2) _ fun y H3 e3 hy => ⟨d, e, dp_same e3 _ _ hx, hy, s1, s2, q _ _ (Same.trans e2 e3) rfl⟩
theorem es_neD {ta tb : TE} {d e : PyData} (ha : EvS ta σ H (IsD K d)) (hb : EvS tb σ H (IsD K e)) (s1 : SeqAt.shaped d = true) (s2 : SeqAt.shaped e = true) : EvS (tOp (rNeD K) ta tb) σ H (IsV (.bl (!PyData.eqv d e))) := fun H1 q1 Q q =>
  ha H1 q1 _ fun x H2 e2 hx => hb H2 (Same.trans q1 e2) _ fun y H3 e3 hy => ⟨d, e, dp_same e3 _ _ hx, hy, s1, s2, q _ _ (Same.trans e2 e3) rfl⟩
theorem es_lenD {ta : TE} {ds : List PyData} (ha : EvS ta σ H (IsD K (.list ds))) : EvS (tCB (N0.rLen K) (tCons ta tNil)) σ H (IsV (.int (ds.length : Int))) := fun H1 e Q q =>
  ha H1 e _ fun v H2 e2 hv => by
    cases hv with
    | lst h hd => exact ⟨_, _, rfl, .inl h, q _ _ e2 (by rw [dpa_len hd])⟩
end
/-! rows of rows, as data -/
theorem eqv_rows : ∀ a b : List (List Int), PyData.eqvAll (a.map tupD) (b.map tupD) = decide (a = b)
  | [], [] => rfl
  | [], _ :: _ => rfl
  | _ :: _, [] => rfl
  | x :: a, y :: b => by
    show (PyData.eqv (tupD x) (tupD y) && PyData.eqvAll (a.map tupD) (b.map tupD)) = _
    rw [eqv_rows a b, show PyData.eqv (tupD x) (tupD y) = decide (x = y) from eqv_tup x y, Bool.eq_iff_iff, Bool.and_eq_true, decide_eq_true_iff, decide_eq_true_iff, decide_eq_true_iff, List.cons.injEq]
def rowsD (ts : List (List Int)) : PyData := .list (ts.map tupD)
theorem eqv_rowsD (a b : List (List Int)) : PyData.eqv (rowsD a) (rowsD b) = decide (a = b) := eqv_rows a b
theorem canLay_rows : ∀ a : List (List Int), PyData.canLayAll0 (a.map tupD) = true
  | [] => rfl
  | x :: a => by
    show (PyData.canLay0 (tupD x) && PyData.canLayAll0 (a.map tupD)) = true
    rw [canLay_tup, canLay_rows a]
    rfl
theorem depth_rows : ∀ a : List (List Int), PyData.depthAll (a.map tupD) ≤ 1
  | [] => Nat.zero_le _
  | x :: a => by
    show max (tupD x).depth (PyData.depthAll (a.map tupD)) ≤ 1
    have h1 : (tupD x).depth = 1 := by
      show PyData.depthAll (x.map .int) + 1 = 1
      rw [depth_ints]
    have h2 := depth_rows a
    omega
theorem shaped_rows (a : List (List Int)) : SeqAt.shaped (rowsD a) = true := by
  unfold SeqAt.shaped rowsD
  rw [show PyData.canLay0 (.list (a.map tupD)) = PyData.canLayAll0 (a.map tupD) from rfl, canLay_rows, Bool.true_and, decide_eq_true_iff]
  show PyData.depthAll (a.map tupD) + 1 ≤ 64
  have := depth_rows a
  omega
theorem dp_rows {K : PySem.W.Frag} {H : Hp} {a : Addr} {vs : List V} {ts : List (List Int)} (h : SqL K H a vs) (hd : DpAll K H vs (ts.map tupD)) : Dp K H (.ref a) (rowsD ts) := .lst h hd
end N0

/-! «yield from» a list; // by a wide number of any sign -/
namespace N0
open PySem PySem.Spec PyProof.Rows L2 HT GenW
section
variable {prog : Program} {w : World} {A : Around} {E : Value → Shared → Prop} {s : Shared} {Q : Option Value → Shared → Prop}
/-- a list's iterator asked for what comes next: there is one more -/
theorem li_more {z b : Addr} {n : Nat} {its : Array Value} {y : Value} (g : s.heap.IsListIter z b n) (g2 : s.heap.IsList b its) (hy : its[n]? = some y)
    (k : ∀ hp, hp.IsListIter z b (n + 1) → Heap.SameBut z s.heap hp → Q (some y) { s with heap := hp }) : wpAny (model prog w) A (callSpecial? (.ref z) "__next__") Q E s := by
  obtain ⟨oz, e1, e2, e3⟩ := id g
  obtain ⟨ob, u1, u2, m, u3⟩ := g2
  refine wpAny_callSpecial?_slot (name := Str.ofString "__next__") g.typeIs slot_listiter_next (wpAny_call_entry slot_listiter_next g.typeIs entry_listiter_next ?_ (args_listiter_next _))
  show wpAny _ _ (field (.ref z) 0 >>= _) _ _ s
  refine wpAny_bind (wpAny_field e1 e3 (x := .ref b) rfl (?_ : wpAny _ _ (if (Value.ref b == Value.none) = true then _ else _) _ _ s))
  rw [if_neg (show ¬ ((Value.ref b == Value.none) = true) from fun q => nomatch q)]
  refine wpAny_bind (wpAny_field e1 e3 (x := .int n 0) rfl (wpAny_bind (wpAny_seqItems u1 u3 ?_)))
  simp only [Int.toNat_natCast, hy]
  refine wpAny_bind (wpAny_setField e1 e3 (by simp) (wpAny_pure ⟨y, rfl, k _ ⟨_, Heap.get?_update_self _ e1 (Obj.isFreed_of_fields (Obj.data_mapFields e3 _)), (Obj.cls_mapFields ..).trans e2, ?_⟩ (Heap.SameBut.update ..)⟩))
  rw [Obj.data_mapFields e3]
  simp [rawInt]
/-- there is none -/
theorem li_none {z b : Addr} {n : Nat} {its : Array Value} (nh : A.handled = none) (g : s.heap.IsListIter z b n) (g2 : s.heap.IsList b its) (hy : its[n]? = none)
    (k : ∀ e hp, StopX e hp → Heap.ExtBut z s.heap hp → E e { s with heap := hp }) : wpAny (model prog w) A (callSpecial? (.ref z) "__next__") Q E s := by
  obtain ⟨oz, e1, e2, e3⟩ := id g
  obtain ⟨ob, u1, u2, m, u3⟩ := g2
  refine wpAny_callSpecial?_slot (name := Str.ofString "__next__") g.typeIs slot_listiter_next (wpAny_call_entry slot_listiter_next g.typeIs entry_listiter_next ?_ (args_listiter_next _))
  show wpAny _ _ (field (.ref z) 0 >>= _) _ _ s
  refine wpAny_bind (wpAny_field e1 e3 (x := .ref b) rfl (?_ : wpAny _ _ (if (Value.ref b == Value.none) = true then _ else _) _ _ s))
  rw [if_neg (show ¬ ((Value.ref b == Value.none) = true) from fun q => nomatch q)]
  refine wpAny_bind (wpAny_field e1 e3 (x := .int n 0) rfl (wpAny_bind (wpAny_seqItems u1 u3 ?_)))
  simp only [Int.toNat_natCast, hy]
  refine wpAny_bind (wpAny_rule (wpAny_bind (wpAny_setField e1 e3 (by simp) (?_ : wpAny _ _ (newExc (.type "StopIteration") [] >>= _) _ _ _))))
  refine wpAny_bind ?_
  simp only [newExc, newTuple]
  refine wpAny_bind (wpAny_newObj_type (wpAny_bind (m := firstArgMember _ _) (wpAny_of_eq (a := Value.none) (by first | rfl | (simp only [firstArgMember]; rfl)) (wpAny_newObj_type ?_ (by size_fits)))) (by size_fits))
  simp only [raiseNew]
  refine wpAny_bind (wpAny_handled ?_)
  first | rw [show A.in1.handled = none from nh] | rw [nh]
  refine wpAny_bind (wpAny_pure (wpAny_throw (k _ _ ⟨_, _, _, rfl, Heap.get?_push_size _ rfl, rfl, rfl, ?_⟩ (((Heap.SameBut.update ..).extBut.push _).push _))))
  first
    | rfl
    | (rw [Array.getElem?_append_left (by decide)]; rfl)
    | kernel_rfl
end
section
variable {X : Cx} {e : Expr} {te : TE}
def tYfL (te : TE) : TYf := fun σ H Q => te σ H fun x H1 => ∃ b xs, x = .ref b ∧ H1 b = some (.lst xs) ∧ Q xs H1
theorem close_li : typeLookup (.type "list_iterator") "close" = pure none := by rw [typeLookup_type, builtinLookup_eq_fast]; kernel_rfl
theorem yf_list (he : PE X e te) : YfE X e (tYfL te) := by
  refine ⟨fun pins s σ H Q I h => thn (he.run pins s σ H _ I h) fun v s1 ⟨x, H1, I1, r1, b, xs, ex, hb, hq⟩ => ?_⟩
  subst ex
  obtain rfl : v = Value.ref b := r1
  obtain ⟨hlen, its, m, ri, hl0⟩ := I1.hok b _ hb
  have hl : s1.heap.IsList b its.toArray := ⟨_, hl0, rfl, m, rfl⟩
  refine ⟨"list", hl.typeIs, by decide, wpAny_pyIter_list hl ?_⟩
  have old : ∀ c o, s1.heap.get? c = some o → c ≠ s1.heap.objs.size := fun c o z => Nat.ne_of_lt (Heap.lt_size z)
  refine ⟨s1.heap.objs.size, H1, xs, fun j hp => hp.IsListIter s1.heap.objs.size b j ∧ hp.IsList b its.toArray, rfl, I1.kept (t' := s1.toks) fun c o z => Heap.get?_push_of_some _ z, .inr I1.sz, Nat.ne_of_gt I1.lt, fun y c hy => ?_, I1.hok.fresh (Nat.le_refl _), fun p hp => old p.1 _ (I1.pin p hp).1,
    ⟨⟨_, Heap.get?_push_size _ rfl, rfl, rfl⟩, hl.push _⟩, ⟨⟨"list_iterator", fun j hp q => q.1.imp fun o z => ⟨z.1, z.2.1⟩, close_li, by decide⟩, fun j hp hp' q hk => ?_, fun A' j x s2 Q' E' hA hx q hQ => ?_, fun A' s2 Q' E' hA q hE => ?_⟩, hq⟩
  · obtain ⟨v, o, ho, _⟩ := I1.cell y c hy
    exact old c o ho
  · obtain ⟨⟨o, ho, r⟩, o2, ho2, r2⟩ := q
    refine ⟨⟨o, hk _ o (.inl rfl) ho, r⟩, o2, hk _ o2 (.inr fun z => ?_) ho2, r2⟩
    rw [hb] at z
    cases z
  · obtain ⟨u, hu, ru⟩ := ri.get hx
    refine li_more q.1 q.2 (y := u) (by simpa using hu) fun hp g hs => hQ u hp s2.toks ru ⟨g, q.2.extBut hs.extBut ?_⟩ fun c o hc z => hs.extBut c o hc z
    obtain ⟨o, ho, _⟩ := hl
    exact old b o ho
  · have hn : its.toArray[xs.length]? = none := by
      have e1 := ri.length
      have e2 : its[xs.length]? = none := List.getElem?_eq_none_iff.mpr (by omega)
      simpa using e2
    exact li_none hA q.1 q.2 hn fun e hp hS hk => hE e hp s2.toks hS fun c o hc z => hk c o hc z
def CDivS (i j : Int) : Prop := j ≠ 0 ∧ j.natAbs.log2 < 9000
theorem op_fdivS : OpR X (binaryOp .FloorDiv) (rI CDivS fun i j => .int (i.fdiv j)) := opI fun i j _ _ _ _ _ hc q => floordiv_int hc.1 q (.inl (PyProof.noPylong_of_log2 hc.2))
end
section
variable {K : PySem.W.Frag} {σ : L2.St} {H : Hp}
theorem ev_ite {c : TT} {b : Bool} {A B : Hp → Prop} (h : EvB c σ H b) (h1 : b = true → ∀ H', Same H H' → A H') (h2 : b = false → ∀ H', Same H H' → B H') : c σ H (fun b H' => if b = true then A H' else B H') := h H (Same.refl _) _ fun H' e => by
  cases b with
  | true => exact h1 rfl H' e
  | false => exact h2 rfl H' e
/-- turns over a list, whatever is done with each item -/
theorem in_list {a : Addr} {xs : List V} {body : V → Hp → (Hp → Prop) → Prop} {Fin : Hp → Prop} (Pv : Nat → Hp → Prop) (h0 : Pv 0 H) (hl : ∀ i H, i ≤ xs.length → Pv i H → SqL K H a xs) (hs : ∀ i x H, xs[i]? = some x → Pv i H → body x H (Pv (i + 1))) (hd : ∀ H, Pv xs.length H → Fin H) :
    ∃ W : Nat → Nat → Hp → Prop, (∃ m, W 0 m H) ∧ ∀ i m H, W i m H → ((Itl K a).stop i H ∧ Fin H) ∨ ((Itl K a).go i H ∧ ∃ Nx : Hp → Prop, (∀ H', Nx H' → ∃ m', m' < m ∧ W (i + 1) m' H') ∧ ∀ x H', (Itl K a).yld i H x H' → body x H' Nx) := by
  refine ⟨fun i m H => m = xs.length - i ∧ i ≤ xs.length ∧ Pv i H, ⟨xs.length, by simp, Nat.zero_le _, h0⟩, ?_⟩
  rintro i m H ⟨rfl, hi, p⟩
  have q := hl i H hi p
  by_cases hlt : i < xs.length
  · refine .inr ⟨⟨xs, xs[i], q, by simp [hlt]⟩, Pv (i + 1), fun H' p' => ⟨xs.length - (i + 1), by omega, rfl, hlt, p'⟩, fun x H' y => ?_⟩
    obtain ⟨e, y⟩ := y
    subst e
    exact hs i x _ (y xs q) p
  · have e : i = xs.length := by omega
    subst e
    exact .inl ⟨⟨xs, q, Nat.le_refl _⟩, hd H p⟩
theorem es_neV {ta tb : TE} {u v : V} (ha : EvS ta σ H (IsV u)) (hb : EvS tb σ H (IsV v)) (hs : scal u v = true) : EvS (tOp rNe ta tb) σ H (IsV (.bl (!decide (u = v)))) := fun H1 e Q q =>
  ha H1 e _ fun x H2 e2 hx => hb H2 (Same.trans e e2) _ fun y H3 e3 hy => by
    subst hx hy
    exact ⟨hs, q _ _ (Same.trans e2 e3) rfl⟩
theorem es_eqV {ta tb : TE} {u v : V} (ha : EvS ta σ H (IsV u)) (hb : EvS tb σ H (IsV v)) (hs : scal u v = true) : EvS (tOp rEq ta tb) σ H (IsV (.bl (decide (u = v)))) := fun H1 e Q q =>
  ha H1 e _ fun x H2 e2 hx => hb H2 (Same.trans e e2) _ fun y H3 e3 hy => by
    subst hx hy
    exact ⟨hs, q _ _ (Same.trans e2 e3) rfl⟩
theorem es_rI {C : Int → Int → Prop} {f : Int → Int → V} {ta tb : TE} {i j : Int} (ha : EvS ta σ H (IsV (.int i))) (hb : EvS tb σ H (IsV (.int j))) (hc : C i j) : EvS (tOp (rI C f) ta tb) σ H (IsV (f i j)) := fun H1 e Q q =>
  ha H1 e _ fun x H2 e2 hx => hb H2 (Same.trans e e2) _ fun y H3 e3 hy => ⟨i, j, hx, hy, hc, q _ _ (Same.trans e2 e3) rfl⟩
theorem es_strI {ta : TE} {i : Int} (ha : EvS ta σ H (IsV (.int i))) (hl : i.natAbs.log2 < 1920) : EvS (tCB (fun xs H Q => ∃ i : Int, xs = [V.int i] ∧ i.natAbs.log2 < 1920 ∧ Q (V.str (Str.ofString (toString i))) H) (tCons ta tNil)) σ H (IsV (.str (Str.ofString (toString i)))) := fun H1 e Q q =>
  ha H1 e _ fun x H2 e2 hx => ⟨i, by rw [hx], hl, q _ _ e2 rfl⟩
theorem es_addS {ta tb : TE} {x y : Str} (ha : EvS ta σ H (IsV (.str x))) (hb : EvS tb σ H (IsV (.str y))) (hz : x.length + y.length ≤ sizeLine) : EvS (tOp (fun x y H Q => ∃ i j, x = V.str i ∧ y = V.str j ∧ i.length + j.length ≤ sizeLine ∧ Q (V.str (i ++ j)) H) ta tb) σ H (IsV (.str (x ++ y))) := fun H1 e Q q =>
  ha H1 e _ fun u H2 e2 hu => hb H2 (Same.trans e e2) _ fun v H3 e3 hv => ⟨x, y, hu, hv, hz, q _ _ (Same.trans e2 e3) rfl⟩
theorem es_intB {ta : TE} {k : Bool} (ha : EvS ta σ H (IsV (.bl k))) : EvS (tCB (fun xs H Q => (∃ i, xs = [V.int i] ∧ Q (V.int i) H) ∨ ∃ k : Bool, xs = [V.bl k] ∧ Q (V.int (if k = true then 1 else 0)) H) (tCons ta tNil)) σ H (IsV (.int (if k = true then 1 else 0))) := fun H1 e Q q =>
  ha H1 e _ fun x H2 e2 hx => .inr ⟨k, by rw [hx], q _ _ e2 rfl⟩
theorem es_ixL {i : Nat} {l : Addr} {ys : List V} {j : Int} {v : V} (hv : σ[i]? = some (some (.ref l))) (hl : H l = some (.lst ys)) (hj : atI ys j = some v) : EvS (tOp (rIxL K) (tVar i) (tC (.int j))) σ H (IsV v) := fun H1 e Q q =>
  ⟨.ref l, hv, l, ys, j, v, rfl, rfl, lst_of (e _ _ hl), hj, q _ _ (Same.refl _) rfl⟩
theorem es_refT {te : TE} {p : Addr} {ns : List Int} (h : EvS te σ H (IsV (.ref p))) (hp : SqT K H p (ns.map V.int)) : EvS te σ H (IsI K ns) := fun H1 e Q q => h H1 e _ fun v H2 e2 hv => q _ _ e2 ⟨p, hv, same_tup (Same.trans e e2) hp⟩
theorem es_lstA {ta : TA} {n : Nat} {P : V → Hp → Prop} (pp : ∀ v H H1, Same H H1 → P v H → P v H1) (h : EvA ta σ H n P) (hn : n ≤ 1000) : EvS (tLst ta) σ H (fun v H' => ∃ l vs, v = .ref l ∧ H' l = some (.lst vs) ∧ ∀ u ∈ vs, P u H') := fun H1 e Q q =>
  h H1 e _ fun vs H2 e2 hl hvs => ⟨Nat.le_of_lt (small1000 (by omega)), fun p hp => q _ _ (Same.trans e2 (new_same hp)) ⟨p, vs, rfl, upd_same, fun u hu => pp _ _ _ (new_same hp) (hvs u hu)⟩⟩
theorem rs_mutl {S l : Addr} {o : HO} {H H1 : Hp} (r : Rs (some S) H H1) (hl : H l = none) (ne : S ≠ l) : Rs (some S) H (upd H1 l o) := ⟨r.s0, by
  obtain ⟨x, y, z, e⟩ := r.s1
  exact ⟨x, y, z, by rw [upd_ne ne]; exact e⟩, fun a u n e => by
  rw [upd_ne (fun q => by rw [q, hl] at e; cases e)]
  exact r.keep a u n e⟩
theorem dpa_rs {S : Addr} {H H1 : Hp} (r : Rs (some S) H H1) : ∀ {vs : List V} {ts : List (List Int)}, DpAll K H vs (ts.map tupD) → DpAll K H1 vs (ts.map tupD)
  | [], [], _ => .nil
  | _ :: _, [], h => nomatch h
  | [], _ :: _, h => nomatch h
  | v :: vs, t :: ts, .cons h g => by
    refine .cons ?_ (dpa_rs r g)
    cases h with
    | tup ha hd =>
      rw [dpa_ints hd] at ha
      exact dp_tup (r.tup ha)
end
end N0

/-! own exceptions that keep one value, over any built-in exception -/
namespace PySem
namespace One
open PySem.W PySem.Calls PyProof.Rows PySem.HandSPX
/-- `def __init__(self, f): self.f = f` -/
def arg1 (f : Str) (p1 p2 : Pos) : Arguments := { posonlyargs := [], args := [{ arg := "self", annotation := none, pos := p1 }, { arg := f, annotation := none, pos := p2 }], vararg := none, kwonlyargs := [], kw_defaults := [], kwarg := none, defaults := [] }
def bod1 (f : Str) (q1 q2 q3 q4 : Pos) : List Stmt := [.Assign [.Attribute (.Name "self" q1) f q2] (.Name f q3) q4]
def sco1 (f : Str) : Scope := { kind := .function, names := [(PySem.Str.ofString "self", .local), (f, .local)], isGenerator := false, isCoroutine := false, more := [] }
/-- the built-in exception that is derived from -/
structure Over (B nid iid : String) (tl : List Value) : Prop where
  F : ExcBaseFacts B nid iid tl
  S : StoreFacts B tl "object.__setattr__" "object"
  ob : tl.contains (.type "object") = true
/-- what the written part says of such a class, at C, its __init__ at fI -/
structure Txt (K : Frag) (mg : Str → Option Value) (B nid iid : String) (tl : List Value) (x f : Str) (C fI : Addr) : Prop where
  ov : Over B nid iid tl
  gC : mg x = some (.ref C)
  cls : ∃ nm q N bs sn sub ab col dd k0 k1 k2 k3 k5, K.lookup C = some (excClassObj nm q C N bs tl true sn sub ab col dd k0 k1 k2 k3 k5 nid)
  sa : findIn K (.ref C) "__setattr__" = some (some (.builtin "object.__setattr__"))
  ga : findIn K (.ref C) "__getattribute__" = some (some (.builtin "BaseException.__getattribute__"))
  gg : findIn K (.ref C) "__getattr__" = some none
  noN : findIn K (.ref C) f = some none
  iC : findIn K (.ref C) "__init__" = some (some (.ref fI))
  tC : typeIn K (.ref fI) = some (.type "function")
  kC : keepIn K (.ref C) = true
  exC : subIn K (.ref C) (.type "BaseException") = some true
  tyC : typeIn K (.ref C) = some (.type "type")
  hdC : hasDictIn K C = true
  fn : ∃ (oc : Value) (od : Option Addr) (doc pm : Value) (an : Option Addr) (cdv ct : Value) (osl : Array (Option Value)) (q : Str) (p1 p2 q1 q2 q3 q4 : Pos),
    K.lookup fI = some ⟨oc, od, .func (fnOf "__init__" q (arg1 f p1 p2) (bod1 f q1 q2 q3 q4) (sco1 f) .none .none doc pm an cdv ct), osl⟩ ∧ codeIn K cdv q = true
section
open Builtin Builtin.ObjectAttr
variable {prog : Program} {w : World} {A : Around} {E : Value → Shared → Prop} {R : Result → Shared → Prop} {hp : Heap} {g : Array GenState} {d : Drawn} {t : Nat} {os : OsState} {B nid iid : String} {tl : List Value}
/-- object.__setattr__ on such an exception that has no dict as yet -/
theorem osa_one {K : Frag} {name : Str} {tk : Tok} {v : Value} {x C : Addr} {fv : Array Value} {cd : ClassData} (O : Over B nid iid tl)
    (X : K.In hp) (hx : hp.get? x = some { cls := .ref C, data := .fields fv }) (hcd : clsIn K C = some cd) (hm : cd.mro = .ref C :: tl) (hh : cd.hasDict = true) (ha : findIn K (.ref C) name = some none)
    (k : ∀ hp' tk' dx, (∀ b o, b ≠ x → hp.get? b = some o → hp'.get? b = some o) → hp.objs.size ≤ dx → dx ≠ x → hp'.get? x = some { cls := .ref C, dict := some dx, data := .fields fv } →
      hp'.Ns1 dx (fun y => if y = name then some v else none) → R (.ok (.ret .none)) ⟨hp', g, d, tk', os⟩) :
    codeAny (model prog w) A (.call (.builtin "object.__setattr__") ⟨[.ref x, .str name tk, v], []⟩) R ⟨hp, g, d, t, os⟩ := by
  have J : InstAt hp x { cls := .ref C, data := .fields fv } C none := ⟨hx, rfl, rfl, trivial⟩
  have nx : x ≠ hp.objs.size := Nat.ne_of_lt (Heap.lt_size hx)
  have c1 : cd.mro.isEmpty = false := by rw [hm]; rfl
  have c2 : cd.mro.contains (.type "object") = true := by rw [hm, List.contains_cons, O.ob, Bool.or_true]
  have is_ob : Looks (model prog w) hp (isInstance (.ref x) (.type "object")) true := J.type.andThen (looks_mroIn X (by unfold mroIn; rw [hcd, Option.bind_some, if_neg (by rw [c1]; decide), c2]))
  refine codeAny_call_builtin F.store_object.slot.plain F.store_object.entry (@check_slot (model prog w) _ _ ⟨hp, g, d, t, os⟩ "object.__setattr__" "object" "__setattr__" (.ref x) [.str name tk, v] [] _ F.store_object.kind F.store_object.split is_ob (F.store_object.args (.ref x) (.str name tk) v) ?_)
  have the_mro : Looks (model prog w) hp (mroOf (.ref C)) cd.mro := (looks_clsIn X hcd).andThen .now
  have no_taker : Looks (model prog w) hp (storeTaker? none) none := .now
  have the_cls : Looks (model prog w) hp (classData C) cd := looks_clsIn X hcd
  have pass : refuseLoop (.ref x) "__setattr__" cd.mro = pure () := by
    rw [hm, refuseLoop_ref]
    exact O.S.passes _
  rw [osa_eq, refuse_eq]
  refine wpAny_bind (wpAny_bind (J.type.at (wpAny_bind (the_mro.at ?_))))
  rw [pass]
  refine wpAny_pure (wpAny_bind (J.type.at (wpAny_bind ((looks_findIn X ha).at (wpAny_bind (no_taker.at (?_ : wpAny _ _ (storeInOwnDict (.ref x) (.ref C) (.str name tk) name v false) _ _ _)))))))
  obtain ⟨nm, bs, mro, ns, qn, hd, sn, sb, ab, col, dl⟩ := cd
  dsimp only at hh
  subst hh
  unfold storeInOwnDict ownDictForStores
  repeat (first | with_reducible refine store_in_new ?_ ?_ | with_reducible refine wpAny_loadPart_at hx ?_ | with_reducible refine the_cls.at ?_ | wp_step)
  · exact ⟨_, #[], _, (Heap.get?_update_ne _ _ _ _ nx.symm).trans (Heap.get?_push_at rfl rfl), rfl, fun e he => absurd he (by simp), fun _ => rfl⟩
  · intro hp' tk' hn hs
    refine k hp' tk' hp.objs.size (fun b o hb ho => (hs.2 b (Nat.ne_of_lt (Heap.lt_size ho))).trans ((Heap.get?_update_ne _ _ _ _ hb).trans (Heap.get?_push_of_some _ ho))) (Nat.le_refl _) nx.symm ?_ hn
    have hx2 : (hp.push { cls := .type "dict", data := .dict #[] }).get? x = some { cls := .ref C, data := .fields fv } := Heap.get?_push_of_some _ hx
    exact (hs.2 x nx).trans (Heap.get?_update_self _ hx2 rfl)
end
/-- what is reckoned of the field's name -/
structure Fld (f : Str) : Prop where
  bind : ∀ (q : Str) (p1 p2 q1 q2 q3 q4 : Pos) (doc pm cdv ct : Value) (an : Option Addr) (x v : Value), bindArgs (fnOf "__init__" q (arg1 f p1 p2) (bod1 f q1 q2 q3 q4) (sco1 f) .none .none doc pm an cdv ct) ⟨[x, v], []⟩ = pure [(("self" : Str), x), (f, v)]
  kself : ∀ (q : Str) (L a : Addr) (cd : Value), (envOfC q (sco1 f) L a cd).kindOf "self" = some .local
  kf : ∀ (q : Str) (L a : Addr) (cd : Value), (envOfC q (sco1 f) L a cd).kindOf f = some .local
  lself : ∀ (q : Str) (L a : Addr) (cd x v : Value), bindL (envOfC q (sco1 f) L a cd).kindOf [(("self" : Str), x), (f, v)] (fun _ => none) ("self" : Str) = some x
  lf : ∀ (q : Str) (L a : Addr) (cd x v : Value), bindL (envOfC q (sco1 f) L a cd).kindOf [(("self" : Str), x), (f, v)] (fun _ => none) f = some v
  dbg : (f == ("__debug__" : Str)) = false
  kinds : ∀ x v : Value, ([(("self" : Str), x), (f, v)].all fun y => List.lookup y.1 (sco1 f).names == some NameKind.local || List.lookup y.1 (sco1 f).names == some NameKind.cell) = true
theorem fld_given : Fld "given" := ⟨fun _ _ _ _ _ _ _ _ _ _ _ _ _ _ => by with_unfolding_all rfl, fun _ _ _ _ => by with_unfolding_all rfl, fun _ _ _ _ => by with_unfolding_all rfl, fun _ _ _ _ _ _ => by with_unfolding_all rfl, fun _ _ _ _ _ _ => by with_unfolding_all rfl, by decide, fun _ _ => by with_unfolding_all rfl⟩
/-- what __init__ leaves of a fresh exception at x -/
structure Left (h h' : Heap) (x C dx t1 : Addr) (f : Str) (v : Value) : Prop where
  keep : ∀ b o, b ≠ x → h.get? b = some o → h'.get? b = some o
  obj : h'.get? x = some { cls := .ref C, dict := some dx, data := .fields #[.ref t1, .none, .none, .none, .bool false, .none] }
  big : h.objs.size ≤ dx
  ne : dx ≠ x
  ns : h'.Ns1 dx (fun y => if y = f then some v else none)
/-- a made one -/
structure Made (h h' : Heap) (e C d : Addr) (f : Str) (v : Value) : Prop where
  keep : ∀ b o, h.get? b = some o → h'.get? b = some o
  new : h.objs.size ≤ e
  obj : ∃ oe vs, h'.get? e = some oe ∧ oe.cls = .ref C ∧ oe.dict = some d ∧ oe.data = .fields vs ∧ vs[1]? = some .none
  big : h.objs.size ≤ d
  ne : d ≠ e
  ns : h'.Ns1 d (fun y => if y = f then some v else none)
theorem ldL {M : Model} {s : Shared} {name : Str} {scope : Scope} {L a : Addr} {cd : Value} {m : Str → Option Value} {x : Str} {pos : Pos} {v : Value} {Q : Value → Shared → Prop} {A : Around} {E : Value → Shared → Prop} (hn : s.heap.Ns L m) (hv : m x = some v) (hk : scope.kind = .function) (hl : (envOfC name scope L a cd).kindOf x = some .local) (h : Q v s)
    (hd : (x == ("__debug__" : Str)) = false) : wpAny M A (eval (.Name x pos) (envOfC name scope L a cd)) Q E s := wpAny_Name (wpAny_loadName_local hk hl hn hv h) hd
section
variable {prog : Program} {w : World} {A : Around} {R : Result → Shared → Prop} {s : Shared} {K : Frag} {mg : Str → Option Value} {B nid iid : String} {tl : List Value} {n f : Str} {C fI : Addr}
theorem init_one (T : Txt K mg B nid iid tl n f C fI) (D : Fld f) {x t0 : Addr} {v : Value} (X : K.In s.heap) (hlim : s.heap.NoLimit) (hx : s.heap.get? x = some (excO C t0)) (room : A.depth < recursionLimit)
    (k : ∀ hp tk dx, Left s.heap hp x C dx t0 f v → R (.ok (.ret .none)) { s with heap := hp, toks := tk }) :
    codeAny (model prog w) A (.call (.ref fI) ⟨[.ref x, v], []⟩) R s := by
  obtain ⟨oc, od, doc, pm, an, cdv, ct, osl, q0, p1, p2, q1, q2, q3, q4, ho, hcd⟩ := T.fn
  obtain ⟨nm, q, N, bs, sn, sub, ab, col, dd, k0, k1, k2, k3, k5, hC⟩ := T.cls
  have hcl : clsIn K C = some { name := nm, bases := bs, mro := .ref C :: tl, ns := N, qualname := q, hasDict := true, slotNames := sn, subclasses := sub, abstract := ab, collection := col, hasDel := false } := by unfold clsIn; rw [hC] <;> rfl
  refine Att.call_fn (binds := [("self", .ref x), (f, v)]) X hlim ho hcd room (BindsTo.of_eq (D.bind _ _ _ _ _ _ _ _ _ _ _ _ _ _)) (D.kinds _ _) (fun s₁ IC => ?_) rfl rfl rfl
  obtain ⟨h₁, tk₁, rfl⟩ := IC.toInCall.same
  have kp : ∀ b o, s.heap.get? b = some o → h₁.get? b = some o := IC.toInCall.keep
  have hn := IC.toInCall.ns
  have X₁ : K.In h₁ := X.keeps kp
  have hx₁ := kp _ _ hx
  show wpAny _ _ (execs _ _) _ _ _
  refine wpAny_execs_cons (plainObj_wpAny_Assign_Attribute ?_)
  refine ldL (v := v) hn (D.lf _ _ _ _ _ _) rfl (D.kf _ _ _ _) (ldL (v := .ref x) hn (D.lself _ _ _ _ _ _) rfl (D.kself _ _ _ _) ?_ (by decide)) D.dbg
  refine set_plain X₁ (ox := excO C t0) (od := none) ⟨hx₁, rfl, rfl, trivial⟩ T.sa ?_
  refine osa_one T.ov X₁ hx₁ hcl rfl rfl T.noN fun h₃ tk₃ dx k₃ dn dne hx₃ hn₃ => ?_
  have lt : s.heap.objs.size < h₁.objs.size := hn.lt
  exact wpAny_execs_nil (k h₃ tk₃ dx ⟨fun b o hb e => k₃ b o hb (kp b o e), hx₃, Nat.le_of_lt (Nat.lt_of_lt_of_le lt dn), dne, hn₃⟩)
theorem made_one (T : Txt K mg B nid iid tl n f C fI) (D : Fld f) {v : Value} (X : K.In s.heap) (hlim : s.heap.NoLimit) (room : A.depth + 1 < recursionLimit)
    (k : ∀ hp tk e d, Made s.heap hp e C d f v → R (.ok (.ret (.ref e))) { s with heap := hp, toks := tk }) :
    codeAny (model prog w) A (.call (.ref C) ⟨[v], []⟩) R s := by
  obtain ⟨nm, q, N, bs, sn, sub, ab, col, dd, k0, k1, k2, k3, k5, hC⟩ := T.cls
  obtain ⟨hp, g, dr, tk, os⟩ := s
  have kp : ∀ b o, hp.get? b = some o → ((hp.push (kdv_tup [v])).push (excO C hp.objs.size)).get? b = some o := fun b o e => Heap.get?_push_of_some _ (Heap.get?_push_of_some _ e)
  have there : ((hp.push (kdv_tup [v])).push (excO C hp.objs.size)).get? (hp.objs.size + 1) = some (excO C hp.objs.size) := by heap_get
  have one : [v].length ≤ sizeLine := by
    rw [sizeLine_eq]
    show 1 ≤ 16777216
    decide
  refine call_own T.ov.F (fun _ => rfl) (X _ _ hC) (looks_findIn X T.iC) (fun self => bind_fn X self T.tC) one ?_
  refine init_one (s := ⟨(hp.push (kdv_tup [v])).push (excO C hp.objs.size), g, dr, tk, os⟩) T D (X.keeps kp) (hlim.keeps kp) there (by show A.depth + 1 < recursionLimit; exact room) fun h' tk' dx ⟨k', hx, dn, dne, hns⟩ => ?_
  have z : hp.objs.size + 1 + 1 ≤ dx := by
    have q := dn
    rw [Heap.size_push, Heap.size_push] at q
    exact q
  exact ⟨rfl, k h' tk' (hp.objs.size + 1) dx ⟨fun b o e => k' b o (Nat.ne_of_lt (Nat.lt_succ_of_lt (Heap.lt_size e))) (kp b o e), Nat.le_succ _, ⟨_, _, hx, rfl, rfl, rfl, rfl⟩, (show hp.objs.size ≤ dx by omega), dne, hns⟩⟩
end
end One
end PySem
namespace N0
open PySem PySem.Spec PyProof.Rows L2 HT
theorem rel_one {f : Str} {v : V} {v' : Value} (r : RelV v v') (y : Str) : RelO (List.lookup y [(f, v)]) (if y = f then some v' else none) := by
  by_cases h : y = f
  · subst h
    rw [if_pos rfl]
    have q : List.lookup y [(y, v)] = some v := by simp [List.lookup]
    rw [q]
    exact r
  · rw [if_neg h]
    have q2 : (y == f) = false := by simpa using h
    have q : List.lookup y [(f, v)] = none := by simp [List.lookup, q2]
    rw [q]
    trivial
section
variable {X : Cx} {B nid iid : String} {tl : List Value} {n f : Str} {C fI : Addr}
/-- n(e), an exception that keeps e as its f -/
def tMk1 (f : Str) (C : Addr) (ta : TA) : L2.St → Hp → XK → Prop := fun σ H Q => ta σ H fun vs H1 => ∃ v, vs = [v] ∧ ∀ d, H1 d = none → Q (.ref C) (some d) (upd H1 d (.xd [(f, v)]))
theorem pmk_one {a : Expr} {ta : TA} {p pos : Pos} {k : Nat} (T : PySem.One.Txt X.K X.mg B nid iid tl n f C fI) (D : PySem.One.Fld f) (hr : Room k X.A) (ha : PA X [a] ta) (hg : Gl X n) (hdb : (n == ("__debug__" : Str)) = false := by decide)
    (he : starEach (a :: []) X.env = (false, eval a X.env) :: starEach [] X.env := by rfl) (hpl : (backTo pos (starEach [] X.env)).any (·.1) = false := by rfl) :
    PMk X (.Call (.Name n p) [a] [] pos) (tMk1 f C ta) := by
  intro pins s σ H Q I h
  refine wpAny_Call_Name_kw (ld_glob I hg T.gC ?_ hdb)
  refine PySem.W.callWith_K (h₀ := X.base) I.ok.mod.kin T.kC (thn (ha.run pos pins s σ H _ I h) fun us s1 hh => ?_) he hpl
  obtain ⟨vs, H1, I1, r1, v, ev, q1⟩ := hh
  subst ev
  refine ⟨I1.kIn, ?_⟩
  cases r1 with
  | cons rv rn =>
    cases rn
    obtain ⟨hp, g, dr, tk, os⟩ := s1
    refine wpAny_call (PySem.One.made_one T D I1.kIn I1.nolimit ?_ fun h' tk' e d M => ?_)
    · have := hr.dp
      omega
    · obtain ⟨oe, fv, hoe, hc, hd, hdat, h1⟩ := M.obj
      obtain ⟨G', g1, g2⟩ := restrict h' fun b => decide (b ≠ e)
      have gk : ∀ b, b ≠ e → G'.get? b = h'.get? b := fun b hb => g1 b (decide_eq_true hb)
      have ge : G'.get? e = none := g2 e (by simp)
      have old : ∀ b o, hp.get? b = some o → G'.get? b = some o := fun b o q => (gk b (Nat.ne_of_lt (Nat.lt_of_lt_of_le (Heap.lt_size q) M.new))).trans (M.keep b o q)
      have ob : ObjOk X.prog X.w (upd H1 d (.xd [(f, v)])) G' d (.xd [(f, v)]) := ⟨_, M.ns.at (fun o q => (gk d M.ne).trans q), fun y => rel_one rv y⟩
      have J : Inv X pins σ (upd H1 d (.xd [(f, v)])) ⟨G', g, dr, tk', os⟩ := I1.laid (t' := tk') old M.big ob
      refine ⟨e, oe, fv, ⟨G', g, dr, tk', os⟩, _, .ref C, some d, rfl, J, fun b o q => ?_, ge, hoe, ⟨hc, hd⟩, hdat, h1, ?_, rfl, I1.bare, raises_own T.exC T.tyC, q1 d (I1.hok.fresh M.big)⟩
      · by_cases hb : b = e
        · have q' : G'.get? b = some o := q
          rw [hb, ge] at q'
          cases q'
        · exact (gk b hb).symm.trans q
      · rw [upd_ne (Ne.symm M.ne)]
        exact I1.hok.fresh M.new
/-- raise n(e) -/
theorem ps_raise1 {a : Expr} {ta : TA} {W : WX} {p pos pos2 : Pos} {k : Nat} (hc : X.calm = true) (T : PySem.One.Txt X.K X.mg B nid iid tl n f C fI) (D : PySem.One.Fld f) (hr : Room k X.A) (tk : Takes X W) (ha : PA X [a] ta) (hg : Gl X n) (hdb : (n == ("__debug__" : Str)) = false := by decide)
    (he : starEach (a :: []) X.env = (false, eval a X.env) :: starEach [] X.env := by rfl) (hpl : (backTo pos (starEach [] X.env)).any (·.1) = false := by rfl) :
    PS X (.Raise (some (.Call (.Name n p) [a] [] pos)) none pos2) (fun _ σ H => tMk1 f C ta σ H fun cls d H' => W cls d σ H') := ps_raise hc tk (pmk_one T D hr ha hg hdb he hpl)
end
end N0

/-! several except clauses, some of them with a name -/
namespace N0
open PySem PySem.Spec PyProof.Rows L2 HT
abbrev Cls3 := Value × Option Nat × (Addr → Value → Option Addr → TS)
/-- behind a suite the name is gone -/
def gone (D : Ends) (i : Nat) : Ends := { nx := fun τ G => D.nx (τ.set i none) G, rt := D.rt, bk := fun τ G => D.bk (τ.set i none) G, ct := fun τ G => D.ct (τ.set i none) G }
def suiteOf (D : Ends) : Option Nat → (Addr → Value → Option Addr → TS) → Addr → Value → Option Addr → L2.St → Hp → Prop
  | none, ts, a, cls, d, τ, G => ts a cls d D τ G
  | some i, ts, a, cls, d, τ, G => ts a cls d (gone D i) (τ.set i (some (.ref a))) G
/-- what the clauses wish of an exception, one behind the other -/
def wTry (K : PySem.W.Frag) (D : Ends) (out : WX) : List Cls3 → WX
  | [] => out
  | (c, o, ts) :: r => fun cls d τ G => ∃ b, PySem.W.exmOne K cls c = some b ∧ (b = true → ∀ a, G a = none → suiteOf D o ts a cls d τ G) ∧ (b = false → wTry K D out r cls d τ G)
inductive Clauses (X : Cx) : List ExceptHandler → List Cls3 → Prop
  | nil : Clauses X [] []
  | bare {x : Str} {c : Value} {ts : Addr → Value → Option Addr → TS} {st : Stmt} {su : List Stmt} {p1 p2 : Pos} {hs : List ExceptHandler} {l : List Cls3} (hc : Names X x c)
      (h : ∀ (a : Addr) (oe : Obj) (cls : Value) (d : Option Addr) (pn : List (Addr × Obj)), Zc cls d oe → (∃ vs, oe.data = .fields vs) → PSs (X.suite a ((a, oe) :: pn)) (st :: su) (ts a cls d)) (r : Clauses X hs l) :
      Clauses X (.ExceptHandler (some (.Name x p1)) none (st :: su) p2 :: hs) ((c, none, ts) :: l)
  | named {x n : Str} {i : Nat} {c : Value} {ts : Addr → Value → Option Addr → TS} {st : Stmt} {su : List Stmt} {p1 p2 : Pos} {hs : List ExceptHandler} {l : List Cls3} (hc : Names X x c) (hi : X.N[i]? = some n) (hl : X.env.kindOf n = some .local)
      (h : ∀ (a : Addr) (oe : Obj) (cls : Value) (d : Option Addr) (pn : List (Addr × Obj)), Zc cls d oe → (∃ vs, oe.data = .fields vs) → PSs (X.suite a ((a, oe) :: pn)) (st :: su) (ts a cls d)) (r : Clauses X hs l) :
      Clauses X (.ExceptHandler (some (.Name x p1)) (some n) (st :: su) p2 :: hs) ((c, some i, ts) :: l)
section
variable {X : Cx} {body : List Stmt} {h1 : ExceptHandler} {hs : List ExceptHandler} {l : List Cls3} {pos : Pos} {tb : WX → TS} {out : WX}
theorem ps_tries (sx : X.stack = X.env :: X.outer) (fx : X.env.frame = some X.env.locals) (nd : X.N.Nodup) (tk : Takes X out)
    (hb : ∀ (W : WX) (pn : List (Addr × Obj)) (xe : Value → Shared → Prop), Takes (X.tr pn xe) W → PassesOwn (model X.prog X.w) X.A X.env xe → PSs (X.tr pn xe) body (tb W))
    (hk : Clauses X (h1 :: hs) l) : PS X (.Try body (h1 :: hs) [] [] pos) (fun D τ G => tb (wTry X.K D out l) D τ G) := by
  refine ⟨fun pins s0 τ0 G0 D I0 ask => wpAny_Try_except ?_⟩
  have ok := I0.ok
  have frm : X.A.frames = some (X.env :: X.outer) := ok.frames.trans (congrArg some sx)
  refine wpAny_mono ((hb (wTry X.K D out l) (X.pn ++ pins) (fun e z1 => wpAny (model X.prog X.w) X.A (noteFrame e X.env) (fun _ z2 => wpAny (model X.prog X.w) X.A (setFlight e none) (fun _ z3 =>
    wpAny (model X.prog X.w) X.A (handleBy e X.env (h1 :: hs)) (SP X pins D) X.xe z3) X.xe z2) X.xe z1) (fun u z flies => ?_) PassesOwn.looking).run [] s0 τ0 G0 D (I0.toTry _) ask) (fun fl z came => ?_) (fun e z q => q)
  · obtain ⟨a, B, si, pins', τ, G, cls, d, rfl, It, nb, up, sky, na, os, ag, wish⟩ := flies
    have I : Inv X pins τ G si := It.ofTry ok
    have sky2 : Sky B (X.env :: X.outer) a (Zc cls d) X.env.locals z.heap := by rw [← sx]; exact sky
    show wpAny (model X.prog X.w) X.A (noteFrame (.ref a) X.env) _ _ _
    refine Sky.land Zc.steady frm fx sky2 fun g3 fl3 up3 => ?_
    have I3 : Inv X pins τ G { z with heap := g3 } := I.landed nb fl3.1 (up.trans up3) os ag
    obtain ⟨o3, fs3, e3, z3, d3⟩ := fl3.there
    have nfr : a ∉ frs (X.env :: X.outer) := fun hm => by
      obtain ⟨_, o', e', hnf⟩ := fl3.2.2.1.mem hm
      rw [e3] at e'
      cases e'
      exact hnf _ d3
    have nL : a ≠ X.env.locals := fun q => nfr (List.mem_filterMap.mpr ⟨X.env, List.mem_cons_self, by rw [fx, q]⟩)
    have nF : a ∉ X.fs := fun hm => by
      obtain ⟨e, he, q⟩ := List.mem_filterMap.mp hm
      exact nfr (List.mem_filterMap.mpr ⟨e, List.mem_cons_of_mem _ he, q⟩)
    have S3 := I3.suite e3 d3 na nL nF
    have LT : PySem.W.Looks (model X.prog X.w) g3 (typeOf (.ref a)) cls := fun A Q E s k q => wpAny_typeOf_ref (k _ _ e3) (by rw [z3.1]; exact q)
    have reads : ∀ {x : Str} {c : Value} {p1 : Pos} {Q : Value → Shared → Prop} {E : Value → Shared → Prop}, Names X x c → Q c { z with heap := g3 } → wpAny (model X.prog X.w) (X.A.mark (some (.ref a))) (eval (.Name x p1) X.env) Q E { z with heap := g3 } := fun {x c p1 Q E} hc q => by
      obtain ⟨hg, hdbg, hm | ⟨hm, hv, hnn⟩⟩ := hc
      · exact ld_glob (X := X.suite a ((a, o3) :: (X.pn ++ pins))) S3 hg hm q hdbg
      · exact ld_blt (X := X.suite a ((a, o3) :: (X.pn ++ pins))) S3 hg hm hv q hnn hdbg
    have tries : ∀ {hs' : List ExceptHandler} {l' : List Cls3}, Clauses X hs' l' → wTry X.K D out l' cls d τ G → wpAny (model X.prog X.w) X.A (handleBy (.ref a) X.env hs') (SP X pins D) X.xe { z with heap := g3 } := by
      intro hs' l' k
      induction k with
      | nil =>
        intro w
        refine wpAny_handleBy_nil ?_
        obtain ⟨_, _, _, oe, vs, T, oT, ts', he, hz, hd, hT, hr⟩ := id fl3
        unfold PySem.passOn
        refine wpAny_bind (wpAny_field he hd hT ?_)
        rw [if_neg (show ¬ ((Value.ref T == Value.none) = true) from fun q => nomatch q)]
        have go : wpAny (model X.prog X.w) X.A (setFlight (.ref a) X.env.frame) (fun _ z4 => wpAny (model X.prog X.w) X.A (throw (.ref a) : Sem Flow) (SP X pins D) X.xe z4) X.xe { z with heap := g3 } := by
          rw [fx]
          exact HandSPX.setFlight_upZ fl3 fun g4 hh4 up4 => wpAny_throw (tk _ _ ⟨a, B, si, pins, τ, G, cls, d, rfl, I, nb, (up.trans up3).trans up4, .inr (.inr (by rw [sx]; exact hh4)), na, os, ag, w⟩)
        first | exact wpAny_bind (wpAny_pure (wpAny_bind go)) | exact wpAny_bind go
      | @bare x c ts st su p1 p2 hs2 l2 hc h r ih =>
        intro w
        obtain ⟨b, hb1, yes, no⟩ := w
        refine wpAny_handleBy_cons (codeAny_handlers_test (reads hc ((PySem.W.exm_one (M := model X.prog X.w) (I3.kIn) LT hb1).here ?_))) (by intro q; cases q)
        cases b with
        | false => exact ih (no rfl)
        | true =>
          refine codeAny_handlers_suite (HandSPX.lands_againZ fl3 fun g4 fl4 up4 => ?_)
          have I4 : Inv X pins τ G { z with heap := g4 } := I.landed nb fl4.1 ((up.trans up3).trans up4) os ag
          obtain ⟨o4, fs4, e4, z4, d4⟩ := fl4.there
          refine wpAny_mono ((h a o4 cls d (X.pn ++ pins) z4 ⟨_, d4⟩).run [] _ _ G _ (I4.suite e4 d4 na nL nF) (yes rfl a na)) (fun f z6 q => ?_) (fun _ _ q => q.elim)
          cases f with
          | next => exact q.imp fun _ q => q.imp fun _ q => ⟨q.1.unsuite ok, q.2⟩
          | brk => exact q.imp fun _ q => q.imp fun _ q => ⟨q.1.unsuite ok, q.2⟩
          | cont => exact q.imp fun _ q => q.imp fun _ q => ⟨q.1.unsuite ok, q.2⟩
          | ret u =>
            obtain ⟨v6, τ6, G6, S6, r6, q6⟩ := q
            exact ⟨_, _, _, S6.unsuite ok, r6, q6⟩
      | @named x n i c ts st su p1 p2 hs2 l2 hc hi hl h r ih =>
        intro w
        obtain ⟨b, hb1, yes, no⟩ := w
        refine wpAny_handleBy_cons (codeAny_handlers_test (reads hc ((PySem.W.exm_one (M := model X.prog X.w) (I3.kIn) LT hb1).here ?_))) (by intro q; cases q)
        cases b with
        | false => exact ih (no rfl)
        | true =>
          refine codeAny_handlers_suite_as (HandSPX.lands_againZ fl3 fun g4 fl4 up4 => ?_)
          have I4 : Inv X pins τ G { z with heap := g4 } := I.landed nb fl4.1 ((up.trans up3).trans up4) os ag
          obtain ⟨o4, fs4, e4, z4, d4⟩ := fl4.there
          refine store_ok (X := X.suite a ((a, o4) :: (X.pn ++ pins))) (v := .ref a) (I4.suite e4 d4 na nL nF) nd hi (.inl hl) rfl (fun z5 S5 => ?_) (.inr hl)
          refine wpAny_mono ((h a o4 cls d (X.pn ++ pins) z4 ⟨_, d4⟩).run [] z5 _ G _ S5 (yes rfl a na)) (fun f z6 q => ?_) (fun _ _ q => q.elim)
          have ends : ∀ {τ6 : L2.St} {G6 : Hp} {Q : Shared → Prop}, Inv (X.suite a ((a, o4) :: (X.pn ++ pins))) [] τ6 G6 z6 → (∀ z7, Inv X pins (τ6.set i none) G6 z7 → Q z7) →
              wpAny (model X.prog X.w) X.A (do bindName X.env n .none; unbindBehindTheSuite X.env n p2) (fun _ z7 => Q z7) X.xe z6 := fun {τ6 G6 Q} S6 k => gone_ok (S6.unsuite ok) nd hi hl k
          cases f with
          | next =>
            obtain ⟨τ6, G6, S6, q6⟩ := q
            exact ends S6 fun z7 J7 => ⟨_, _, J7, q6⟩
          | brk =>
            obtain ⟨τ6, G6, S6, q6⟩ := q
            exact ends S6 fun z7 J7 => ⟨_, _, J7, q6⟩
          | cont =>
            obtain ⟨τ6, G6, S6, q6⟩ := q
            exact ends S6 fun z7 J7 => ⟨_, _, J7, q6⟩
          | ret u =>
            obtain ⟨v6, τ6, G6, S6, r6, q6⟩ := q
            exact ends S6 fun z7 J7 => ⟨_, _, _, J7, r6, q6⟩
    exact tries hk wish
  · cases fl with
    | next =>
      obtain ⟨τ, G, J, q⟩ := came
      exact wpAny_execs_nil ⟨τ, G, J.ofTry ok, q⟩
    | brk => exact came.imp fun _ q => q.imp fun _ q => ⟨q.1.ofTry ok, q.2⟩
    | cont => exact came.imp fun _ q => q.imp fun _ q => ⟨q.1.ofTry ok, q.2⟩
    | ret u =>
      obtain ⟨v, τ, G, J, r, q⟩ := came
      exact ⟨v, τ, G, J.ofTry ok, r, q⟩
end
end N0

/-! own classes: len(o), str(o), o == v, o != v by the class's own methods -/
namespace N0
open PySem PySem.Spec PyProof.Rows L2 HT
section
variable {X : Cx} {pins : List (Addr × Obj)} {σ : L2.St} {H : Hp} {s : Shared} {k : Nat} {f C : Addr} {fd : FuncData} {ps : List Str} {sp : Sp}
/-- a def of the class called somewhere below the running body -/
theorem own_run {A : Around} {us : List Value} {vs : List V} {Q : VK} {E' : Value → Shared → Prop} (hA : A.frames = X.A.frames) (hr : Room k A) (F : FnOk X.prog X.w X.K X.mg X.base CX0 k f fd ps sp) (hb : Binds X.K fd ps []) (I : Inv X pins σ H s) (r : Vals vs us) (h : sp vs H Q E0) :
    wpAny (model X.prog X.w) A (call (.ref f) us) (EP X pins σ Q) E' s := by
  have e0 : Env0 X.prog X.w X.K X.mg X.base A X.stack s H := by
    have e := I.env0
    exact ⟨by rw [hA]; exact e.frames, e.mod, e.bs, e.bsz, e.funs, e.frf, e.hok, e.bare⟩
  have hl := F.len _ _ _ _ h
  have hul := r.length
  refine wpAny_call (codeAny_mono (F.run A X.stack s H ⟨us, []⟩ us vs Q E0 hr e0 (by
    have := hb s us I.kIn (by simp; omega)
    simpa using this) r h) fun r s' hq => ?_)
  cases r with
  | error e => exact (show False from hq).elim
  | ok fl =>
    cases fl with
    | ret w => exact I.after hq
    | next => exact False.elim hq
    | brk => exact False.elim hq
    | cont => exact False.elim hq
/-- the class at C has the def at f as its m -/
structure Own (K : PySem.W.Frag) (C : Addr) (m : Str) (f : Addr) : Prop where
  at_ : PySem.W.findIn K (.ref C) m = some (some (.ref f))
  fn : PySem.W.isFn K (.ref f) = true
def rOwnLen (C : Addr) (sp : Sp) : List V → Hp → VK → Prop := fun xs H Q => ∃ a dx fs, xs = [.ref a] ∧ H a = some (.ins C dx fs) ∧ sp [.ref a] H (fun v H' => ∃ n : Int, v = .int n ∧ 0 ≤ n ∧ n < 2 ^ 63 ∧ Q (.int n) H') E0
theorem cr_ownLen (F : FnOk X.prog X.w X.K X.mg X.base CX0 k f fd ps sp) (hb : Binds X.K fd ps []) (O : Own X.K C "__len__" f) (hr : Room (k + 1) X.A) : CallR X (.builtin "len") (rOwnLen C sp) := by
  intro pins s σ H xs us Q I r h
  obtain ⟨a, dx, fs, rfl, ha, h⟩ := h
  obtain ⟨u, rfl, r1⟩ := vals1 r
  cases r1
  obtain ⟨mA, J, _⟩ := ins_get I.hok ha
  obtain ⟨od, J, _⟩ := J.look
  obtain ⟨m, hF⟩ := I.fr
  refine PySem.W.len_K hF I.ok.mod.kin J O.at_ O.fn (wpAny_mono (own_run (A := X.A.in1) rfl hr.in1 F hb I r h) (fun v s' q => ?_) fun _ _ q => q)
  obtain ⟨z, H', I', rz, n, rfl, n0, n1, q⟩ := q
  obtain ⟨t, rfl⟩ := rz
  exact ⟨⟨n0, n1⟩, .int n, H', I'.tok _, ⟨_, rfl⟩, q⟩
def rOwnStr (C : Addr) (sp : Sp) : List V → Hp → VK → Prop := fun xs H Q => ∃ a dx fs, xs = [.ref a] ∧ H a = some (.ins C dx fs) ∧ sp [.ref a] H (fun v H' => ∃ x : Str, v = .str x ∧ Q (.str x) H') E0
theorem cr_ownStr (F : FnOk X.prog X.w X.K X.mg X.base CX0 k f fd ps sp) (hb : Binds X.K fd ps []) (O : Own X.K C "__str__" f) (hr : Room (k + 2) X.A) : CallR X (.type "str") (rOwnStr C sp) := by
  intro pins s σ H xs us Q I r h
  obtain ⟨a, dx, fs, rfl, ha, h⟩ := h
  obtain ⟨u, rfl, r1⟩ := vals1 r
  cases r1
  obtain ⟨mA, J, _⟩ := ins_get I.hok ha
  obtain ⟨od, J, _⟩ := J.look
  have hr2 : Room k X.A.in1.in1 := hr.in1.in1
  refine PySem.W.kso_call (by have := hr2.un; omega) I.kIn J O.at_ O.fn (wpAny_mono (own_run (A := X.A.in1.in1) rfl hr2 F hb I r h) (fun v s' q => ?_) fun _ _ q => q)
  obtain ⟨z, H', I', rz, x, rfl, q⟩ := q
  obtain ⟨t, rfl⟩ := rz
  exact ⟨.str x, H', I', ⟨_, rfl⟩, q⟩
/-- the other side's class does not come first -/
def NotFirst (K : PySem.W.Frag) (H : Hp) (C : Addr) (y : V) : Prop := (∃ b dy gs, y = .ref b ∧ H b = some (.ins C dy gs)) ∨ ∃ b xs, y = .ref b ∧ SqT K H b xs ∧ PySem.W.subIn K (.type "tuple") (.ref C) = some false
theorem notFirst_of {y : V} {v : Value} (I : Inv X pins σ H s) (ry : RelV y v) (nf : NotFirst X.K H C y) : ∃ tb, PySem.W.Looks (model X.prog X.w) s.heap (typeOf v) tb ∧ PySem.W.notFirst X.K C tb = true := by
  rcases nf with ⟨b, dy, gs, rfl, hy⟩ | ⟨b, xs, rfl, hT, hs⟩
  · cases ry
    obtain ⟨mB, J', _⟩ := ins_get I.hok hy
    obtain ⟨od', J', _⟩ := J'.look
    exact ⟨.ref C, J'.type, by simp [PySem.W.notFirst]⟩
  · cases ry
    obtain ⟨its, r, ⟨o, ho, hc, _⟩, _⟩ := I.tuple hT
    exact ⟨.type "tuple", fun A Q E s k q => wpAny_typeOf_ref (k _ _ ho) (by rw [hc]; exact q), by simp [PySem.W.notFirst, hs]⟩
def rOwnEq (neg : Bool) (K : PySem.W.Frag) (C : Addr) (sp : Sp) : R2 := fun x y H Q => ∃ a dx fs, x = .ref a ∧ H a = some (.ins C dx fs) ∧ NotFirst K H C y ∧ sp [.ref a, y] H (fun v H' => ∃ b : Bool, v = .bl b ∧ Q (.bl (if neg = true then !b else b)) H') E0
theorem op_ownEq (F : FnOk X.prog X.w X.K X.mg X.base CX0 k f fd ps sp) (hb : Binds X.K fd ps []) (O : Own X.K C "__eq__" f) (hr : Room k X.A) : OpR X (compareOp .Eq) (rOwnEq false X.K C sp) := by
  intro pins s σ H x y u v Q I rx ry h
  obtain ⟨a, dx, fs, rfl, ha, nf, h⟩ := h
  cases rx
  obtain ⟨mA, J, _⟩ := ins_get I.hok ha
  obtain ⟨od, J, _⟩ := J.look
  obtain ⟨m, hF⟩ := I.fr
  obtain ⟨tb, L, hn⟩ := notFirst_of I ry nf
  have r1 : RelV (V.ref a) (Value.ref a) := rfl
  show wpAny _ _ (richCompare .Eq (.ref a) v) _ _ s
  refine PySem.W.cmp_K (op := .Eq) (by have := hr.un; omega) hF I.ok.mod.kin J L hn O.at_ O.fn (wpAny_mono (own_run (A := X.A) rfl hr F hb I (.cons r1 (.cons ry .nil)) h) (fun w s' q => ?_) fun _ _ q => q)
  obtain ⟨z, H', I', rz, b, rfl, q⟩ := q
  cases rz
  exact ⟨.bl b, H', I', rfl, q⟩
/-- what != wants of the class -/
structure OwnNe (K : PySem.W.Frag) (C : Addr) : Prop where
  ne : PySem.W.findIn K (.ref C) "__ne__" = some (some (.builtin "object.__ne__"))
  ob : PySem.W.mroIn K C (.type "object") = some true
theorem op_ownNe (F : FnOk X.prog X.w X.K X.mg X.base CX0 k f fd ps sp) (hb : Binds X.K fd ps []) (O : Own X.K C "__eq__" f) (N : OwnNe X.K C) (hr : Room (k + 1) X.A) : OpR X (compareOp .NotEq) (rOwnEq true X.K C sp) := by
  intro pins s σ H x y u v Q I rx ry h
  obtain ⟨a, dx, fs, rfl, ha, nf, h⟩ := h
  cases rx
  obtain ⟨mA, J, _⟩ := ins_get I.hok ha
  obtain ⟨od, J, _⟩ := J.look
  obtain ⟨m, hF⟩ := I.fr
  obtain ⟨tb, L, hn⟩ := notFirst_of I ry nf
  have r1 : RelV (V.ref a) (Value.ref a) := rfl
  have X1 : X.K.In s.heap := I.kIn
  have hu : X.A.units + 40 < cLine := by have := hr.un; omega
  have isob : PySem.W.Looks (model X.prog X.w) s.heap (isInstance (.ref a) (.type "object")) true := J.type.andThen (PySem.W.looks_mroIn X1 N.ob)
  have body : wpAny (model X.prog X.w) X.A (call (.builtin "object.__ne__") [.ref a, v]) (fun w s' => ∃ b : Bool, w = .bool b ∧ EP X pins σ Q (.bool b) s') X.xe s := by
    refine wpAny_call (codeAny_call_builtin (by decide +kernel) PySem.F.cmpEntry_ne (@PySem.W.check_slot (model X.prog X.w) _ _ s "object.__ne__" "object" "__ne__" (.ref a) [v] [] _ PySem.F.cmpKind_ne PySem.F.cmpSplit_ne isob (PySem.F.cmpArgs_ne _ _) ?_))
    unfold Builtin.«object.__ne__»
    have room1 : X.A.in1.units < cLine := by have := hr.in1.un; omega
    have ask : ∀ {Q2 : Option Value → Shared → Prop} {E2 : Value → Shared → Prop}, (∀ (b : Bool) s', EP X pins σ Q (.bool (!b)) s' → Q2 (some (.bool b)) s') → wpAny (model X.prog X.w) X.A.in1 (callSpecialIfBound? (.ref a) "__eq__" [v]) Q2 E2 s := fun {Q2 E2} kq =>
      PySem.W.ifBound_K X1 J O.at_ O.fn (wpAny_mono (own_run (A := X.A.in1) rfl hr.in1 F hb I (.cons r1 (.cons ry .nil)) h) (fun w s' q => by
        obtain ⟨z, H', I', rz, b, rfl, q⟩ := q
        cases rz
        exact kq b s' ⟨.bl (!b), H', I', rfl, q⟩) fun _ _ q => q)
    repeat (first | with_reducible refine wpAny_cRoomFor room1 ?_ | with_reducible refine ask ?_ | wp_step)
    intro b s' q
    show wpAny _ _ (truthy (.bool b) >>= fun d => ret (.bool !d)) _ _ _
    exact wpAny_bind (wpAny_pure (wpAny_pure ⟨_, rfl, q⟩))
  have one : wpAny (model X.prog X.w) X.A (tryCompare (.ref a) "__ne__" v) (fun r s' => ∃ w, r = some w ∧ EP X pins σ Q w s') X.xe s := by
    unfold tryCompare
    refine wpAny_bind ?_
    simp only [callSpecialIfBound?, bindSpecialIfBound?]
    refine wpAny_holding (wpAny_bind (wpAny_bind (wpAny_bind (J.type.here ((PySem.W.looks_findIn X1 N.ne).here ?_)))))
    refine wpAny_bind (wpAny_askSetting (wpAny_ite ?_))
    have fin : wpAny (model X.prog X.w) X.A (call (.builtin "object.__ne__") ([.ref a] ++ [v]) >>= fun w => pure (some w)) (fun r s' => wpAny (model X.prog X.w) X.A (match r with | some .notImplemented => pure none | none => pure none | some w => pure (some w)) (fun r s' => ∃ w, r = some w ∧ EP X pins σ Q w s') X.xe s') X.xe s := by
      refine wpAny_bind (wpAny_mono body (fun w s' q => wpAny_pure ?_) fun _ _ q => q)
      obtain ⟨b, rfl, q⟩ := q
      exact wpAny_pure ⟨_, rfl, q⟩
    split
    · exact wpAny_bind (wpAny_pure (wpAny_pure (by exact fin)))
    · exact wpAny_tryCatch (wpAny_bind (wpAny_pure (wpAny_pure (by exact fin))))
  show wpAny _ _ (richCompare .NotEq (.ref a) v) _ _ s
  unfold richCompare
  simp only [oneThing_ref]
  refine wpAny_holding (wpAny_bind (wpAny_cRoomFor (by omega) ?_))
  refine wpAny_bind (J.type.here (wpAny_bind (L.here ?_)))
  have last : wpAny (model X.prog X.w) X.A (tryCompare (.ref a) "__ne__" v) (fun r s' => ∃ w, r = some w ∧ EP X pins σ Q w s') X.xe s := one
  split
  · rename_i q
    have e : PySem.W.subIn X.K tb (.ref C) = some false := by
      rcases Bool.or_eq_true_iff.mp hn with e | e
      · rw [beq_iff_eq.mp e] at q
        simp at q
      · exact beq_iff_eq.mp e
    refine wpAny_bind ((PySem.W.looks_subIn X1 e).here ?_)
    simp only [Bool.false_eq_true, if_false]
    refine wpAny_bind (wpAny_mono last (fun r s' z => ?_) fun _ _ e => e)
    obtain ⟨w, rfl, hq⟩ := z
    exact wpAny_pure hq
  · refine wpAny_bind (wpAny_pure ?_)
    simp only [Bool.false_eq_true, if_false]
    refine wpAny_bind (wpAny_mono last (fun r s' z => ?_) fun _ _ e => e)
    obtain ⟨w, rfl, hq⟩ := z
    exact wpAny_pure hq
end
end N0

/-! comprehensions by value; max of a tuple; list(range(..)) -/
namespace N0
open PySem PySem.Spec PyProof.Rows L2 HT
section
variable {prog : Program} {w : World} {A : Around} {E : Value → Shared → Prop} {s : Shared} {Q : Value → Shared → Prop}
theorem iter_intTup {l : Addr} {xs : Array (Int × Tok)} (hl : s.heap.IsTuple l (intItems xs))
    (h : ∀ s₂ : Shared, (∀ b o, s.heap.get? b = some o → s₂.heap.get? b = some o) → (∃ g, s₂ = { s with heap := g }) → (s₂.heap.IsTupleIter s.heap.objs.size l 0 ∧ s₂.heap.IsTuple l (intItems xs)) → (∀ b ∈ [s.heap.objs.size, l], b < s₂.heap.objs.size) → l ≠ s.heap.objs.size → Q (.ref s.heap.objs.size) s₂) :
    wpAny (model prog w) A (pyIter (.ref l)) Q E s := by
  have hlt : l < s.heap.objs.size := by obtain ⟨_, e, _⟩ := hl; exact Heap.lt_size e
  refine wpAny_pyIter_tuple hl (h _ (fun b o e => Heap.get?_push_of_some _ e) ⟨_, rfl⟩ ⟨⟨_, Heap.get?_push_size _ rfl, rfl, rfl⟩, hl.push _⟩ (fun b hb => ?_) (Nat.ne_of_lt hlt))
  show b < (s.heap.push _).objs.size
  rw [Heap.size_push]
  rcases List.mem_cons.mp hb with rfl | hb
  · exact Nat.lt_succ_self _
  · rcases List.mem_cons.mp hb with rfl | hb
    · exact Nat.lt_succ_of_lt hlt
    · cases hb
theorem max_intTup {l : Addr} {xs : Array (Int × Tok)} (hh : A.handled = none) (hl : s.heap.IsTuple l (intItems xs)) (hne : 0 < xs.size)
    (h : ∀ v h' tk, (intItems xs)[argBest (fun i j => decide (numAt xs i > numAt xs j)) (xs.size - 1)]? = some v → (∀ b o, s.heap.get? b = some o → h'.get? b = some o) → Q v { s with heap := h', toks := tk }) :
    wpAny (model prog w) A (call (.builtin "max") [.ref l]) Q E s := by
  refine call_max_walk (iter_intTup hl fun s₂ old e st hfp hlI => ?_)
  obtain ⟨g, rfl⟩ := e
  refine ⟨_, _, _, _, _, _, _, rfl, Walks.tuple (A := A.in1) hh _ l hlI (intItems xs), st, hfp, by simpa [intItems] using hne, CmpOf.ints_gt (numAt xs) (fun _ _ => intItems_at), fun v h' tk hP hk => ?_⟩
  refine h v h' tk (by simpa [intItems] using hP) fun b o e => hk b o (fun hm => ?_) (old b o e)
  rcases List.mem_cons.mp hm with e1 | hm
  · exact absurd (e1 ▸ Heap.lt_size e) (Nat.lt_irrefl _)
  · cases hm
theorem maxT_raw {l : Addr} {its : List Value} {ns : List Int} (hh : A.handled = none) (hl : s.heap.IsTuple l its.toArray) (hi : IntsAre its ns) (hne : 0 < ns.length)
    (h : ∀ h' tk M t', (∀ b o, s.heap.get? b = some o → h'.get? b = some o) → M ∈ ns → (∀ a, a ∈ ns → a ≤ M) → Q (.int M t') { s with heap := h', toks := tk }) : wpAny (model prog w) A (call (.builtin "max") [.ref l]) Q E s := by
  obtain ⟨xs, e⟩ := hi.allInts.items
  have hn : numsOf (intItems xs).toList = ns := by rw [← e]; exact hi.numsOf
  rw [nums_intItems] at hn
  subst hn
  rw [e] at hl
  have hsz : 0 < xs.size := by simpa using hne
  refine max_intTup hh hl hsz fun v h' tk hv hk => ?_
  obtain ⟨t, rfl⟩ := intItems_at hv
  obtain ⟨h1, h2⟩ := argBest_gt (numAt xs) (xs.size - 1)
  refine h h' tk _ t hk ?_ fun a ha => ?_
  · rw [numAt_eq]; exact PySem.getD_mem (by rw [List.length_map, Array.length_toList]; omega)
  · obtain ⟨j, hj, rfl⟩ := mem_getD ha
    rw [List.length_map, Array.length_toList] at hj
    rw [← numAt_eq]; exact h2 j (by omega)
end
section
variable {X : Cx} {K : PySem.W.Frag}
/-- max of a tuple or of a list of integers -/
def rMaxA (K : PySem.W.Frag) : List V → Hp → VK → Prop := fun vs H Q => ∃ (a : Addr) (ns : List Int), vs = [V.ref a] ∧ (SqL K H a (ns.map V.int) ∨ SqT K H a (ns.map V.int)) ∧ 0 < ns.length ∧ ∀ m, m ∈ ns → (∀ y, y ∈ ns → y ≤ m) → Q (.int m) H
theorem cr_maxA (hc : X.calm = true) : CallR X (.builtin "max") (rMaxA X.K) := by
  intro pins s σ H vs us Q I r h
  obtain ⟨a, ns, rfl, hs | hs, hne, q⟩ := h
  · obtain ⟨its, rv, hl, _⟩ := I.list hs
    rw [Vals.ref1 r]
    exact max_raw (I.ok.hd hc) hl.isList rv.ints hne fun h' tk m t' hk h1 h2 => ⟨.int _, H, I.kept hk, ⟨_, rfl⟩, q m h1 h2⟩
  · obtain ⟨its, rv, hl, _⟩ := I.tuple hs
    rw [Vals.ref1 r]
    exact maxT_raw (I.ok.hd hc) hl rv.ints hne fun h' tk m t' hk h1 h2 => ⟨.int _, H, I.kept hk, ⟨_, rfl⟩, q m h1 h2⟩
theorem kcr_maxA (hc : X.calm = true) (h : X.K = K := by rfl) : CallR X (.builtin "max") (rMaxA K) := h ▸ cr_maxA hc
end
section
variable {K : PySem.W.Frag} {H : Hp} {σ : L2.St}
/-- what a loop walks over: xs, each time, the heap left as it is -/
def EvI (wi : TI) (σ : L2.St) (H : Hp) (xs : List V) : Prop := ∀ H1, Same H H1 → ∀ R : It → Hp → Prop, (∀ J H2, Same H1 H2 → Walk J xs.length (fun H => Same H2 H) (YAt xs) → R J H2) → wi σ H1 R
theorem ei_tup {te : TE} {xs : List V} (h : EvS te σ H (fun v H' => ∃ a, v = .ref a ∧ SqT K H' a xs)) : EvI (iTup K te) σ H xs := fun H1 e R r =>
  h H1 e _ fun v H2 e2 ⟨a, ev, ha⟩ => ⟨a, ev, ⟨xs, ha⟩, r _ H2 e2 (walk_tup.mono (fun H' e3 => same_tup e3 ha) fun _ _ _ _ _ _ y => y)⟩
theorem ei_list {te : TE} {xs : List V} (h : EvS te σ H (fun v H' => ∃ a, v = .ref a ∧ SqL K H' a xs)) : EvI (iList K te) σ H xs := fun H1 e R r =>
  h H1 e _ fun v H2 e2 ⟨a, ev, ha⟩ => ⟨a, ev, ⟨xs, ha⟩, r _ H2 e2 (walk_list.mono (fun H' e3 => same_lst e3 ha) fun _ _ _ _ _ _ y => y)⟩
theorem ei_range {te : TE} {n : Nat} (h : EvS te σ H (IsV (.int (n : Int)))) (hn : n ≤ 100000) : EvI (iRng1 (tCons te tNil)) σ H ((List.range n).map fun i => V.int (i : Nat)) := fun H1 e R r =>
  h H1 e _ fun v H2 e2 ev => by
    subst ev
    refine ⟨(n : Int), rfl, by omega, by omega, ?_⟩
    refine r _ H2 e2 ?_
    rw [List.length_map, List.length_range]
    have en : ((n : Int) - 0).toNat = n := by omega
    refine ⟨fun _ _ hi _ => by first | exact hi | (show _ < _; omega), fun _ _ => by first | exact Nat.le_refl _ | (show _ ≤ _; omega), fun i H3 x H4 hi _ y => ⟨y.1, ?_⟩⟩
    rw [List.getElem?_map, List.getElem?_range hi, y.2]
    show some (V.int _) = some (V.int _)
    rw [Int.zero_add]
/-- a comprehension, each item by its own promise that lasts while the new list grows -/
theorem es_lcR {wi : TI} {g : TG} {tt : TT} {te : TE} {vs : List Nat} {xs : List V} {b : V → Bool} {P : V → V → Hp → Prop} (τ : V → L2.St)
    (hP : ∀ x y H H1, Same H H1 → P x y H → P x y H1) (hM : ∀ x y H D zs o, H D = some (.lst zs) → P x y H → P x y (upd H D o))
    (hi : EvI wi σ H xs) (hz : xs.length ≤ 100000) (hg : ∀ x ∈ xs, ∀ H' Q, Q (τ x) H' → g x (wipe σ vs) H' Q) (hw : ∀ x ∈ xs, wipe (τ x) vs = wipe σ vs)
    (ht : ∀ x ∈ xs, EvB tt (τ x) H (b x)) (he : ∀ x ∈ xs, b x = true → EvS te (τ x) H (P x)) :
    EvS (tLc wi g tt te vs) σ H (fun v H' => ∃ (D : Addr) (ys : List V), v = .ref D ∧ H' D = some (.lst ys) ∧ H D = none ∧ ys.length = (xs.filter b).length ∧ ∀ (i : Nat) (x y : V), (xs.filter b)[i]? = some x → ys[i]? = some y → P x y H') := fun H1 e Q q =>
  hi H1 e _ fun J H2 e2 W D hD => by
    have hD0 : H D = none := by
      cases z : H D with
      | none => rfl
      | some o => rw [(Same.trans e e2) _ _ z] at hD; cases hD
    refine lc_it W (fun i H' => Same H2 H' ∧ ∃ ys : List V, H' D = some (.lst ys) ∧ ys.length = ((xs.take i).filter b).length ∧ ∀ (j : Nat) (x y : V), ((xs.take i).filter b)[j]? = some x → ys[j]? = some y → P x y H') ⟨new_same hD, [], upd_same, rfl, fun j x y _ z => nomatch z⟩ (fun i H' _ p => p.1) (fun i x H' H'' hi' p y => ?_) fun H' p => ?_
    · obtain ⟨e3, ys, d3, yl, hp⟩ := p
      obtain ⟨rfl, hx⟩ := y
      have hm : x ∈ xs := List.mem_of_getElem? hx
      have et : xs.take (i + 1) = xs.take i ++ [x] := by
        rw [List.take_succ, hx]
        rfl
      refine hg x hm _ _ ⟨hw x hm, ht x hm _ (Same.trans (Same.trans e e2) e3) _ fun H3 e4 => ?_⟩
      by_cases hb : b x = true
      · rw [if_pos hb]
        refine he x hm hb _ (Same.trans (Same.trans (Same.trans e e2) e3) e4) _ fun v H4 e5 pv => ?_
        have d4 := (Same.trans e4 e5) _ _ d3
        have ef : (xs.take (i + 1)).filter b = (xs.take i).filter b ++ [x] := by
          rw [et, List.filter_append]
          congr 1
          simp [hb]
        refine ⟨ys, d4, (Nat.lt_of_le_of_lt (m := 100000) ?_ (by decide)), same_mut (Same.trans (Same.trans e3 e4) e5) hD, ys ++ [v], upd_same, by rw [ef, List.length_append, List.length_append, yl]; rfl, fun j u z hu hz' => ?_⟩
        · rw [yl]
          refine Nat.le_trans (List.length_filter_le _ _) ?_
          rw [List.length_take]
          omega
        · refine hM _ _ _ _ _ _ d4 ?_
          rw [ef] at hu
          by_cases hj : j < ys.length
          · rw [List.getElem?_append_left hj] at hz'
            rw [List.getElem?_append_left (by omega)] at hu
            exact hP _ _ _ _ (Same.trans e4 e5) (hp j u z hu hz')
          · rw [List.getElem?_append_right (by omega)] at hz' hu
            have ez : j - ys.length = 0 := by
              have := (List.getElem?_eq_some_iff.mp hz').1
              simp at this
              omega
            have ez2 : j - ((xs.take i).filter b).length = 0 := by omega
            rw [ez] at hz'
            rw [ez2] at hu
            cases hz'
            cases hu
            exact pv
      · rw [if_neg hb]
        have ef : (xs.take (i + 1)).filter b = (xs.take i).filter b := by
          rw [et, List.filter_append]
          have : [x].filter b = [] := by simp [hb]
          rw [this, List.append_nil]
        refine ⟨Same.trans e3 e4, ys, e4 _ _ d3, by rw [ef]; exact yl, fun j u z hu hz' => ?_⟩
        rw [ef] at hu
        exact hP _ _ _ _ e4 (hp j u z hu hz')
    · obtain ⟨e3, ys, d3, yl, hp⟩ := p
      rw [List.take_length] at yl hp
      exact q _ _ (Same.trans e2 e3) ⟨D, ys, rfl, d3, hD0, yl, hp⟩
theorem list_map_of {xs ys : List V} {f : V → V} (hl : ys.length = xs.length) (h : ∀ (i : Nat) (x y : V), xs[i]? = some x → ys[i]? = some y → y = f x) : ys = xs.map f := by
  refine List.ext_getElem? fun i => ?_
  rw [List.getElem?_map]
  by_cases hi : i < ys.length
  · have e1 := List.getElem?_eq_getElem hi
    have e2 := List.getElem?_eq_getElem (show i < xs.length by omega)
    rw [e1, e2, h i _ _ e2 e1]
    rfl
  · rw [List.getElem?_eq_none (by omega), List.getElem?_eq_none (by omega)]
    rfl
/-- a comprehension whose items are plain values -/
theorem es_lcV {wi : TI} {g : TG} {tt : TT} {te : TE} {vs : List Nat} {xs : List V} {b : V → Bool} (f : V → V) (τ : V → L2.St)
    (hi : EvI wi σ H xs) (hz : xs.length ≤ 100000) (hg : ∀ x ∈ xs, ∀ H' Q, Q (τ x) H' → g x (wipe σ vs) H' Q) (hw : ∀ x ∈ xs, wipe (τ x) vs = wipe σ vs)
    (ht : ∀ x ∈ xs, EvB tt (τ x) H (b x)) (he : ∀ x ∈ xs, b x = true → EvS te (τ x) H (IsV (f x))) :
    EvS (tLc wi g tt te vs) σ H (fun v H' => ∃ D : Addr, v = .ref D ∧ H' D = some (.lst ((xs.filter b).map f)) ∧ H D = none) := fun H1 e Q q =>
  es_lcR (P := fun x y _ => y = f x) τ (fun _ _ _ _ _ h => h) (fun _ _ _ _ _ _ _ h => h) hi hz hg hw ht he H1 e _ fun v H2 e2 ⟨D, ys, ev, d, n, hl, hp⟩ =>
    q v H2 e2 ⟨D, ev, by rw [d, list_map_of hl hp], n⟩
theorem eb_yes : EvB tYes σ H true := fun H1 e Q q => q H1 (Same.refl _)
/-- tuple(..) of a list that was made -/
theorem es_tupL {te : TE} {ys : List V} (h : EvS te σ H (fun v H' => ∃ D : Addr, v = .ref D ∧ H' D = some (.lst ys) ∧ H D = none)) : EvS (tCB (rTupOf K) (tCons te tNil)) σ H (fun v H' => ∃ p, v = .ref p ∧ SqT K H' p ys) := fun H1 e Q q =>
  h H1 e _ fun v H2 e2 ⟨D, ev, d, _⟩ => ⟨D, ys, by rw [ev], .inl ⟨lst_of d, fun l hl => q _ _ (Same.trans e2 (new_same hl)) ⟨l, rfl, tup_of upd_same⟩⟩⟩
theorem es_seqT {i : Nat} {a : Addr} {xs : List V} (hv : σ[i]? = some (some (.ref a))) (h : SqT K H a xs) : EvS (tVar i) σ H (fun v H' => ∃ a, v = .ref a ∧ SqT K H' a xs) := evs_var hv fun H1 e => ⟨a, rfl, same_tup e h⟩
theorem es_seqL {i : Nat} {a : Addr} {xs : List V} (hv : σ[i]? = some (some (.ref a))) (h : SqL K H a xs) : EvS (tVar i) σ H (fun v H' => ∃ a, v = .ref a ∧ SqL K H' a xs) := evs_var hv fun H1 e => ⟨a, rfl, same_lst e h⟩
/-- a plain call: a def's promise that leaves the heap as it was and gives v -/
theorem es_ret {te : TE} {P : V → Hp → Prop} (h : EvS te σ H P) {D : Ends} (q : ∀ v H', Same H H' → P v H' → D.rt v H') : tRet te D σ H := h H (Same.refl _) _ fun v H2 e2 p => q v H2 e2 p
theorem es_ixSq {ta ti : TE} {xs : List V} {i : Int} {x : V} (ha : EvS ta σ H (fun v H' => ∃ a, v = .ref a ∧ SqT K H' a xs)) (hi : EvS ti σ H (IsV (.int i))) (hx : atI xs i = some x) : EvS (tOp (rIxT K) ta ti) σ H (IsV x) := fun H1 e Q q =>
  ha H1 e _ fun v H2 e2 ⟨a, ev, h⟩ => hi H2 (Same.trans e e2) _ fun u H3 e3 eu => by
    subst ev
    subst eu
    exact ⟨a, _, _, _, rfl, rfl, same_tup e3 h, hx, q _ _ (Same.trans e2 e3) rfl⟩
/-- arguments by their exact values -/
def EvV (ta : TA) (σ : L2.St) (H : Hp) (us : List V) : Prop := ∀ H1, Same H H1 → ∀ Q : List V → Hp → Prop, (∀ H2, Same H1 H2 → Q us H2) → ta σ H1 Q
theorem ev0 : EvV tNil σ H [] := fun H1 e Q q => q H1 (Same.refl _)
theorem evc {te : TE} {ta : TA} {v : V} {us : List V} (h : EvS te σ H (IsV v)) (h2 : EvV ta σ H us) : EvV (tCons te ta) σ H (v :: us) := fun H1 e Q q =>
  h H1 e _ fun x H2 e2 ex => h2 H2 (Same.trans e e2) _ fun H3 e3 => by
    subst ex
    exact q H3 (Same.trans e2 e3)
/-- a call by a promise, its arguments by their values -/
theorem es_fn {sp : Sp} {ta : TA} {us : List V} {P : V → Hp → Prop} (h : EvV ta σ H us) (hs : ∀ H1, Same H H1 → ∀ Q : VK, (∀ v H2, Same H1 H2 → P v H2 → Q v H2) → sp us H1 Q E0) : EvS (tFn sp ta) σ H P := fun H1 e Q q =>
  h H1 e _ fun H2 e2 => hs H2 (Same.trans e e2) _ fun v H3 e3 p => q v H3 (Same.trans e2 e3) p
theorem es_imp {te : TE} {P P' : V → Hp → Prop} (h : EvS te σ H P) (i : ∀ v H', Same H H' → P v H' → P' v H') : EvS te σ H P' := fun H1 e Q q => h H1 e _ fun v H2 e2 p => q v H2 e2 (i v H2 (Same.trans e e2) p)
abbrev NewL (H : Hp) (ys : List V) : V → Hp → Prop := fun v H' => ∃ D : Addr, v = .ref D ∧ H' D = some (.lst ys) ∧ H D = none
theorem es_rg2 {ta tb : TE} {i j : Int} (ha : EvS ta σ H (IsV (.int i))) (hb : EvS tb σ H (IsV (.int j))) (ok : RgOk i j) : EvS (tLstRg (tRg2 ta tb)) σ H (NewL H (rgV i j)) := fun H1 e Q q =>
  ha H1 e _ fun v H2 e2 ev => hb H2 (Same.trans e e2) _ fun u H3 e3 eu => ⟨i, j, ev, eu, ok, fun D hD => q _ _ (Same.trans (Same.trans e2 e3) (new_same hD)) ⟨D, rfl, upd_same, Same.free (Same.trans (Same.trans e e2) e3) hD⟩⟩
theorem es_rg1 {ta : TE} {j : Int} (ha : EvS ta σ H (IsV (.int j))) (ok : RgOk 0 j) : EvS (tLstRg (tRg1 ta)) σ H (NewL H (rgV 0 j)) := fun H1 e Q q =>
  ha H1 e _ fun v H2 e2 ev => ⟨j, ev, ok, fun D hD => q _ _ (Same.trans e2 (new_same hD)) ⟨D, rfl, upd_same, Same.free (Same.trans e e2) hD⟩⟩
theorem es_lenSq {te : TE} {xs : List V} (h : EvS te σ H (fun v H' => ∃ a, v = .ref a ∧ SqT K H' a xs)) : EvS (tCB (N0.rLen K) (tCons te tNil)) σ H (IsV (.int (xs.length : Int))) := fun H1 e Q q =>
  h H1 e _ fun v H2 e2 ⟨a, ea, h⟩ => ⟨a, _, by rw [ea], .inr h, q _ _ e2 rfl⟩
theorem es_lenL {te : TE} {xs : List V} (h : EvS te σ H (fun v H' => ∃ a, v = .ref a ∧ SqL K H' a xs)) : EvS (tCB (N0.rLen K) (tCons te tNil)) σ H (IsV (.int (xs.length : Int))) := fun H1 e Q q =>
  h H1 e _ fun v H2 e2 ⟨a, ea, h⟩ => ⟨a, _, by rw [ea], .inl h, q _ _ e2 rfl⟩
theorem es_catL {ta tb : TE} {xs ys : List V} (ha : EvS ta σ H (NewL H xs)) (hb : EvS tb σ H (NewL H ys)) (hz : xs.length + ys.length ≤ 100000) : EvS (tOp rCat ta tb) σ H (NewL H (xs ++ ys)) := fun H1 e Q q =>
  ha H1 e _ fun v H2 e2 ⟨a, ea, da, na⟩ => hb H2 (Same.trans e e2) _ fun u H3 e3 ⟨b, eb, db, nb⟩ =>
    ⟨a, b, xs, ys, ea, eb, e3 _ _ da, db, Nat.le_trans hz (by decide), fun D hD => q _ _ (Same.trans (Same.trans e2 e3) (new_same hD)) ⟨D, rfl, upd_same, Same.free (Same.trans (Same.trans e e2) e3) hD⟩⟩
def bI (c : Int → Bool) : V → Bool
  | .int i => c i
  | _ => false
def fI (g : Int → V) : V → V
  | .int i => g i
  | v => v
theorem filt_ints (c : Int → Bool) (g : Int → V) : ∀ ns : List Int, ((ns.map V.int).filter (bI c)).map (fI g) = (ns.filter c).map g
  | [] => rfl
  | n :: ns => by
    rw [List.map_cons, List.filter_cons, List.filter_cons]
    show List.map (fI g) (if c n = true then _ else _) = _
    split
    · rw [List.map_cons, List.map_cons, filt_ints c g ns]
      rfl
    · exact filt_ints c g ns
theorem mem_ints {ns : List Int} {x : V} (h : x ∈ ns.map V.int) : ∃ i ∈ ns, x = .int i := by
  obtain ⟨i, h1, h2⟩ := List.mem_map.mp h
  exact ⟨i, h1, h2.symm⟩
/-- a comprehension over integers -/
theorem es_lcI {wi : TI} {g : TG} {tt : TT} {te : TE} {vs : List Nat} {ns : List Int} (c : Int → Bool) (f : Int → V) (τ : V → L2.St)
    (hi : EvI wi σ H (ns.map V.int)) (hz : ns.length ≤ 100000) (hg : ∀ i ∈ ns, ∀ H' Q, Q (τ (.int i)) H' → g (.int i) (wipe σ vs) H' Q) (hw : ∀ i ∈ ns, wipe (τ (.int i)) vs = wipe σ vs)
    (ht : ∀ i ∈ ns, EvB tt (τ (.int i)) H (c i)) (he : ∀ i ∈ ns, c i = true → EvS te (τ (.int i)) H (IsV (f i))) : EvS (tLc wi g tt te vs) σ H (NewL H ((ns.filter c).map f)) := by
  have := es_lcV (b := bI c) (fI f) τ hi (by rw [List.length_map]; exact hz) (fun x hx => by obtain ⟨i, h, rfl⟩ := mem_ints hx; exact hg i h) (fun x hx => by obtain ⟨i, h, rfl⟩ := mem_ints hx; exact hw i h) (fun x hx => by obtain ⟨i, h, rfl⟩ := mem_ints hx; exact ht i h) (fun x hx hb => by obtain ⟨i, h, rfl⟩ := mem_ints hx; exact he i h hb)
  rwa [filt_ints] at this
/-- a comprehension without a test, each item by the place -/
theorem es_lcN {wi : TI} {g : TG} {te : TE} {vs : List Nat} {xs : List V} {P : Nat → V → Hp → Prop} (τ : V → L2.St)
    (hP : ∀ i y H H1, Same H H1 → P i y H → P i y H1) (hM : ∀ i y H D zs o, H D = some (.lst zs) → P i y H → P i y (upd H D o))
    (hi : EvI wi σ H xs) (hz : xs.length ≤ 100000) (hg : ∀ x ∈ xs, ∀ H' Q, Q (τ x) H' → g x (wipe σ vs) H' Q) (hw : ∀ x ∈ xs, wipe (τ x) vs = wipe σ vs)
    (he : ∀ (i : Nat) (x : V), xs[i]? = some x → EvS te (τ x) H (P i)) :
    EvS (tLc wi g tYes te vs) σ H (fun v H' => ∃ (D : Addr) (ys : List V), v = .ref D ∧ H' D = some (.lst ys) ∧ H D = none ∧ ys.length = xs.length ∧ ∀ (i : Nat) (y : V), ys[i]? = some y → P i y H') := fun H1 e Q q =>
  hi H1 e _ fun J H2 e2 W D hD => by
    have hD0 : H D = none := by
      cases z : H D with
      | none => rfl
      | some o => rw [(Same.trans e e2) _ _ z] at hD; cases hD
    refine lc_it W (fun i H' => Same H2 H' ∧ i ≤ xs.length ∧ ∃ ys : List V, H' D = some (.lst ys) ∧ ys.length = i ∧ ∀ (j : Nat) (y : V), ys[j]? = some y → P j y H') ⟨new_same hD, Nat.zero_le _, [], upd_same, rfl, fun j y z => nomatch z⟩ (fun i H' _ p => p.1) (fun i x H' H'' hi' p y => ?_) fun H' p => ?_
    · obtain ⟨e3, _, ys, d3, yl, hp⟩ := p
      obtain ⟨rfl, hx⟩ := y
      have hm : x ∈ xs := List.mem_of_getElem? hx
      refine hg x hm _ _ ⟨hw x hm, ?_⟩
      refine he i x hx _ (Same.trans (Same.trans e e2) e3) _ fun v H4 e5 pv => ?_
      have d4 := e5 _ _ d3
      refine ⟨ys, d4, (Nat.lt_of_le_of_lt (m := 100000) (by omega) (by decide)), same_mut (Same.trans e3 e5) hD, hi', ys ++ [v], upd_same, by rw [List.length_append, yl]; rfl, fun j z hz' => ?_⟩
      refine hM _ _ _ _ _ _ d4 ?_
      by_cases hj : j < ys.length
      · rw [List.getElem?_append_left hj] at hz'
        exact hP _ _ _ _ e5 (hp j z hz')
      · rw [List.getElem?_append_right (by omega)] at hz'
        have ez : j - ys.length = 0 := by
          have := (List.getElem?_eq_some_iff.mp hz').1
          simp at this
          omega
        rw [ez] at hz'
        cases hz'
        have : j = i := by omega
        subst this
        exact pv
    · obtain ⟨e3, _, ys, d3, yl, hp⟩ := p
      exact q _ _ (Same.trans e2 e3) ⟨D, ys, rfl, d3, hD0, yl, hp⟩
/-- a call of a built-in with one argument -/
theorem es_cb1 {r : List V → Hp → VK → Prop} {te : TE} {P P' : V → Hp → Prop} (h : EvS te σ H P) (hr : ∀ v H1, Same H H1 → P v H1 → ∀ Q : VK, (∀ u H2, Same H1 H2 → P' u H2 → Q u H2) → r [v] H1 Q) : EvS (tCB r (tCons te tNil)) σ H P' := fun H1 e Q q =>
  h H1 e _ fun v H2 e2 p => hr v H2 (Same.trans e e2) p Q fun u H3 e3 p' => q u H3 (Same.trans e2 e3) p'
/-- the same from a heap on, the slots by the place, the target of any form -/
theorem lcN_core {J : It} {g : TG} {te : TE} {vs : List Nat} {xs : List V} {P : Nat → V → Hp → Prop} {Q : VK} {H2 : Hp} (τ : Nat → L2.St) (W : Walk J xs.length (fun H => Same H2 H) (YAt xs))
    (hP : ∀ i y H H1, Same H H1 → P i y H → P i y H1) (hM : ∀ i y H D zs o, H D = some (.lst zs) → P i y H → P i y (upd H D o))
    (hz : xs.length ≤ 100000) (hg : ∀ (i : Nat) (x : V), xs[i]? = some x → ∀ H', Same H2 H' → ∀ Q, Q (τ i) H' → g x (wipe σ vs) H' Q) (hw : ∀ i, i < xs.length → wipe (τ i) vs = wipe σ vs)
    (he : ∀ (i : Nat) (x : V), xs[i]? = some x → EvS te (τ i) H2 (P i))
    (q : ∀ (D : Addr) (ys : List V) (H3 : Hp), Same H2 H3 → H3 D = some (.lst ys) → H2 D = none → ys.length = xs.length → (∀ (i : Nat) (y : V), ys[i]? = some y → P i y H3) → Q (.ref D) H3) :
    ∀ D, H2 D = none → ∃ W : Nat → Nat → Hp → Prop, (∃ m, W 0 m (upd H2 D (.lst []))) ∧ ∀ i m H, W i m H →
      (J.stop i H ∧ Q (.ref D) H) ∨ (J.go i H ∧ ∃ Nx : Hp → Prop, (∀ H', Nx H' → ∃ m', m' < m ∧ W (i + 1) m' H') ∧ ∀ x H', J.yld i H x H' → g x (wipe σ vs) H' fun σ2 H2 => wipe σ2 vs = wipe σ vs ∧ tYes σ2 H2 fun b H3 =>
        if b = true then te σ2 H3 fun y H4 => ∃ acc, H4 D = some (.lst acc) ∧ acc.length < sizeLine ∧ Nx (upd H4 D (.lst (acc ++ [y]))) else Nx H3) := fun D hD => by
  refine lc_it W (fun i H' => Same H2 H' ∧ i ≤ xs.length ∧ ∃ ys : List V, H' D = some (.lst ys) ∧ ys.length = i ∧ ∀ (j : Nat) (y : V), ys[j]? = some y → P j y H') ⟨new_same hD, Nat.zero_le _, [], upd_same, rfl, fun j y z => nomatch z⟩ (fun i H' _ p => p.1) (fun i x H' H'' hi' p y => ?_) fun H' p => ?_
  · obtain ⟨e3, _, ys, d3, yl, hp⟩ := p
    obtain ⟨rfl, hx⟩ := y
    refine hg i x hx _ e3 _ ⟨hw i hi', ?_⟩
    refine he i x hx _ e3 _ fun v H4 e5 pv => ?_
    have d4 := e5 _ _ d3
    refine ⟨ys, d4, (Nat.lt_of_le_of_lt (m := 100000) (by omega) (by decide)), same_mut (Same.trans e3 e5) hD, hi', ys ++ [v], upd_same, by rw [List.length_append, yl]; rfl, fun j z hz' => ?_⟩
    refine hM _ _ _ _ _ _ d4 ?_
    by_cases hj : j < ys.length
    · rw [List.getElem?_append_left hj] at hz'
      exact hP _ _ _ _ e5 (hp j z hz')
    · rw [List.getElem?_append_right (by omega)] at hz'
      have ez : j - ys.length = 0 := by
        have := (List.getElem?_eq_some_iff.mp hz').1
        simp at this
        omega
      rw [ez] at hz'
      cases hz'
      have : j = i := by omega
      subst this
      exact pv
  · obtain ⟨e3, _, ys, d3, yl, hp⟩ := p
    exact q D ys _ e3 d3 hD yl hp
theorem walk_listS {a : Addr} {xs : List V} (h : SqL K H a xs) : Walk (Itl K a) xs.length (fun H' => Same H H') (YAt xs) := walk_list.mono (fun H' e3 => same_lst e3 h) fun _ _ _ _ _ _ y => y
theorem walk_tupS {a : Addr} {xs : List V} (h : SqT K H a xs) : Walk (Itt K a) xs.length (fun H' => Same H H') (YAt xs) := walk_tup.mono (fun H' e3 => same_tup e3 h) fun _ _ _ _ _ _ y => y
theorem tup_mutl {H : Hp} {D a : Addr} {ys xs : List V} {o : HO} (d : H D = some (.lst ys)) (h : SqT K H a xs) : SqT K (upd H D o) a xs := by
  have ne : ∀ {u : HO}, H a = some u → (∀ ys, u ≠ .lst ys) → upd H D o a = some u := fun h hn => by
    rw [upd_ne (fun q => by rw [q, d] at h; cases h; exact hn _ rfl)]
    exact h
  rcases h with (h | ⟨u, h⟩) | h
  · exact .inl (.inl (ne h fun _ q => nomatch q))
  · exact .inl (.inr ⟨u, ne h fun _ q => nomatch q⟩)
  · exact .inr h
end
end N0

/-! own classes by promises: methods, properties, making, fields; by value -/
namespace N0
open PySem PySem.Spec PyProof.Rows L2 HT
/-- the address that a name has at the top -/
def cA (mg : Str → Option Value) (x : Str) : Addr := match mg x with
  | some (.ref C) => C
  | _ => 0
theorem rel_ref {a : Addr} : RelV (.ref a) (.ref a) := rfl
structure Mt (P : Program) (w : World) (K : PySem.W.Frag) (mg : Str → Option Value) (base : Heap) (k : Nat) (C : Addr) (m : Str) (sp : Sp) : Prop where
  ex : ∃ (f : Addr) (fd : FuncData) (ps : List Str), Meth K C m f ∧ FnOk P w K mg base CX0 k f fd ps sp ∧ Binds K fd ps []
structure Pr (P : Program) (w : World) (K : PySem.W.Frag) (mg : Str → Option Value) (base : Heap) (k : Nat) (C : Addr) (m : Str) (sp : Sp) : Prop where
  ex : ∃ (f p : Addr) (fd : FuncData) (ps : List Str), PropOf K C m p f ∧ FnOk P w K mg base CX0 k f fd ps sp ∧ Binds K fd ps []
structure Mr (P : Program) (w : World) (K : PySem.W.Frag) (mg : Str → Option Value) (base : Heap) (k : Nat) (x : Str) (C : Addr) (sp : Sp) : Prop where
  ex : ∃ (f : Addr) (fd : FuncData) (ps : List Str), Mk K C f ∧ FnOk P w K mg base CX0 k f fd ps sp ∧ Binds K fd ps []
  at_ : mg x = some (.ref C)
structure Ow (P : Program) (w : World) (K : PySem.W.Frag) (mg : Str → Option Value) (base : Heap) (k : Nat) (C : Addr) (m : Str) (sp : Sp) : Prop where
  ex : ∃ (f : Addr) (fd : FuncData) (ps : List Str), Own K C m f ∧ FnOk P w K mg base CX0 k f fd ps sp ∧ Binds K fd ps []
section
variable {X : Cx} {C : Addr} {m x : Str} {sp : Sp} {k j : Nat} {o e : Expr} {es : List Expr} {ta : TE} {t : TA} {apos pos p : Pos}
theorem pe_m {pl : Sem Bool} (M : Mt X.prog X.w X.K X.mg X.base k C m sp) (c : Cls X.K C) (hr : Room j X.A) (hk : k ≤ j) (he : PE X o ta) (ha : PA X (e :: es) t)
    (hst : starEach (e :: es) X.env = (false, eval e X.env) :: starEach es X.env := by rfl) (hpl : (backTo pos (starEach es X.env)).any (·.1) = false := by rfl)
    (ht : eval (.Call (.Attribute o m apos) (e :: es) [] pos) X.env = (do
      let ov ← eval o X.env
      standAt apos.atName
      let (f, first) ← holding [ov] (getMethod ov m pl)
      callWith pos f first (backTo pos (starEach (e :: es) X.env)) (backToKw pos (keywordEach [] X.env))) := by rfl) : PE X (.Call (.Attribute o m apos) (e :: es) [] pos) (tMeth C m sp [] E0 ta t) := by
  obtain ⟨f, fd, ps, hm, F, hb⟩ := M.ex
  exact pe_meth (pl := pl) he c hm F (hr.mono hk) hb .nil pass0 ha hst hpl ht
theorem pe_m0 {pl : Sem Bool} (M : Mt X.prog X.w X.K X.mg X.base k C m sp) (c : Cls X.K C) (hr : Room j X.A) (hk : k ≤ j) (he : PE X o ta)
    (ht : eval (.Call (.Attribute o m apos) [] [] pos) X.env = (do
      let ov ← eval o X.env
      standAt apos.atName
      let (f, first) ← holding [ov] (getMethod ov m pl)
      callWith pos f first (backTo pos (starEach [] X.env)) (backToKw pos (keywordEach [] X.env))) := by rfl) : PE X (.Call (.Attribute o m apos) [] [] pos) (tMeth C m sp [] E0 ta tNil) := by
  obtain ⟨f, fd, ps, hm, F, hb⟩ := M.ex
  exact pe_meth0 (pl := pl) he c hm F (hr.mono hk) hb .nil pass0 ht
theorem pe_p (M : Pr X.prog X.w X.K X.mg X.base k C m sp) (c : Cls X.K C) (hr : Room j X.A) (hk : k + 1 ≤ j) (he : PE X e ta) (hab : attributeBase e m X.env (eval e X.env) = eval e X.env := by rfl) : PE X (.Attribute e m pos) (tProp C sp [] E0 ta) := by
  obtain ⟨f, p, fd, ps, hp, F, hb⟩ := M.ex
  exact pe_prop he c hp F (hr.mono hk) hb .nil pass0 hab
theorem pe_k (M : Mr X.prog X.w X.K X.mg X.base k x C sp) (hr : Room j X.A) (hk : k + 1 ≤ j) (hg : Gl X x) (ha : PA X (e :: es) t) (hdb : (x == ("__debug__" : Str)) = false := by decide)
    (he : starEach (e :: es) X.env = (false, eval e X.env) :: starEach es X.env := by rfl) (hpl : (backTo pos (starEach es X.env)).any (·.1) = false := by rfl) : PE X (.Call (.Name x p) (e :: es) [] pos) (tMake C sp [] E0 t) := by
  obtain ⟨f, fd, ps, hm, F, hb⟩ := M.ex
  exact pe_make hm F (hr.mono hk) hg M.at_ hb .nil pass0 ha hdb he hpl
theorem kcr_ownLen (M : Ow X.prog X.w X.K X.mg X.base k C "__len__" sp) (hr : Room j X.A) (hk : k + 1 ≤ j) : CallR X (.builtin "len") (rOwnLen C sp) := by
  obtain ⟨f, fd, ps, hm, F, hb⟩ := M.ex
  exact cr_ownLen F hb hm (hr.mono hk)
theorem kcr_ownStr (M : Ow X.prog X.w X.K X.mg X.base k C "__str__" sp) (hr : Room j X.A) (hk : k + 2 ≤ j) : CallR X (.type "str") (rOwnStr C sp) := by
  obtain ⟨f, fd, ps, hm, F, hb⟩ := M.ex
  exact cr_ownStr F hb hm (hr.mono hk)
theorem kop_ownEq {K : PySem.W.Frag} (M : Ow X.prog X.w X.K X.mg X.base k C "__eq__" sp) (hr : Room j X.A) (hk : k ≤ j) (h : X.K = K := by rfl) : OpR X (compareOp .Eq) (rOwnEq false K C sp) := by
  subst h
  obtain ⟨f, fd, ps, hm, F, hb⟩ := M.ex
  exact op_ownEq F hb hm (hr.mono hk)
theorem kop_ownNe {K : PySem.W.Frag} (M : Ow X.prog X.w X.K X.mg X.base k C "__eq__" sp) (N : OwnNe X.K C) (hr : Room j X.A) (hk : k + 1 ≤ j) (h : X.K = K := by rfl) : OpR X (compareOp .NotEq) (rOwnEq true K C sp) := by
  subst h
  obtain ⟨f, fd, ps, hm, F, hb⟩ := M.ex
  exact op_ownNe F hb hm N (hr.mono hk)
theorem kpe_fld {K : PySem.W.Frag} (he : PE X e ta) (hb : attributeBase e m X.env (eval e X.env) = eval e X.env := by rfl) (h : X.K = K := by rfl) : PE X (.Attribute e m pos) (tFld K ta m) := h ▸ pe_fld he hb
end
section
variable {K : PySem.W.Frag} {H : Hp} {σ : L2.St}
/-- an object of the class with these attributes -/
def Ob (C : Addr) (fs : List (Str × V)) (H : Hp) (a : Addr) : Prop := ∃ dx, H a = some (.ins C dx fs)
theorem ob_same {H1 : Hp} {C a : Addr} {fs : List (Str × V)} (e : Same H H1) (h : Ob C fs H a) : Ob C fs H1 a := by
  obtain ⟨dx, h⟩ := h
  exact ⟨dx, e _ _ h⟩
theorem es_m {ta : TE} {t : TA} {C a : Addr} {fs : List (Str × V)} {m : Str} {sp : Sp} {us : List V} {P : V → Hp → Prop} (ho : EvS ta σ H (IsV (.ref a))) (hob : Ob C fs H a) (hl : fs.lookup m = none) (hv : EvV t σ H us)
    (hs : ∀ H1, Same H H1 → ∀ Q : VK, (∀ v H2, Same H1 H2 → P v H2 → Q v H2) → sp (.ref a :: us) H1 Q E0) : EvS (tMeth C m sp [] E0 ta t) σ H P := fun H1 e Q q =>
  ho H1 e _ fun v H2 e2 ev => by
    subst ev
    obtain ⟨dx, ea⟩ := ob_same (Same.trans e e2) hob
    refine ⟨a, dx, fs, rfl, ea, hl, hv H2 (Same.trans e e2) _ fun H3 e3 => ?_⟩
    rw [List.append_nil]
    exact hs H3 (Same.trans (Same.trans e e2) e3) _ fun v H4 e4 p => q v H4 (Same.trans (Same.trans e2 e3) e4) p
theorem es_p {ta : TE} {C a : Addr} {fs : List (Str × V)} {sp : Sp} {P : V → Hp → Prop} (ho : EvS ta σ H (IsV (.ref a))) (hob : Ob C fs H a)
    (hs : ∀ H1, Same H H1 → ∀ Q : VK, (∀ v H2, Same H1 H2 → P v H2 → Q v H2) → sp [.ref a] H1 Q E0) : EvS (tProp C sp [] E0 ta) σ H P := fun H1 e Q q =>
  ho H1 e _ fun v H2 e2 ev => by
    subst ev
    obtain ⟨dx, ea⟩ := ob_same (Same.trans e e2) hob
    exact ⟨a, dx, fs, rfl, ea, hs H2 (Same.trans e e2) _ fun v H4 e4 p => q v H4 (Same.trans e2 e4) p⟩
theorem es_fld {ta : TE} {C a : Addr} {fs : List (Str × V)} {f : Str} {v : V} (ho : EvS ta σ H (IsV (.ref a))) (hob : Ob C fs H a) (c : Cls K C) (n : NoAttr K C f) (hl : fs.lookup f = some v) : EvS (tFld K ta f) σ H (IsV v) := fun H1 e Q q =>
  ho H1 e _ fun u H2 e2 ev => by
    subst ev
    obtain ⟨dx, ea⟩ := ob_same (Same.trans e e2) hob
    exact ⟨a, C, dx, fs, v, rfl, ea, c, n, hl, q v H2 e2 rfl⟩
end
end N0

/-! iter(tuple) as a value; list(o) of an own class whose __iter__ gives such, with its own __len__ -/
namespace N0
open PySem PySem.Spec PyProof.Rows L2 HT
theorem bo_iter : bootBuiltins "iter" = some (.builtin "iter") := by decide +kernel
section
variable {prog : Program} {w : World} {A : Around} {E : Value → Shared → Prop} {s : Shared} {it l : Addr} {i : Nat} {items : Array Value}
theorem call_iterRaw {Q : Value → Shared → Prop} (hl : s.heap.IsTuple l items) (h : Q (.ref s.heap.objs.size) { s with heap := s.heap.push { cls := .type "tuple_iterator", data := .fields #[.ref l, .int 0 0] } }) : wpAny (model prog w) A (call (.builtin "iter") [.ref l]) Q E s := by
  refine Calls.call_function_entry (by decide +kernel) (by decide +kernel) PySem.W.kdk_entry_iter (PySem.W.kdk_args_iter _) ?_
  unfold Builtin.«iter»
  refine wpAny_bind (m := someArgs "iter" 1 2 _) (wpAny_of_eq (a := [Value.ref l]) (by first | rfl | kernel_rfl!) ?_)
  show wpAny _ _ (pyIter (.ref l) >>= _) _ _ _
  refine wpAny_bind (wpAny_pyIter_tuple hl ?_)
  exact wpAny_pure ⟨_, rfl, h⟩
theorem next_end {Q : Option Value → Shared → Prop} (hh : A.handled = none) (hit : s.heap.IsTupleIter it l i) (ht : s.heap.IsTuple l items) (hx : items[i]? = none)
    (hQ : ∀ h', Heap.ExtBut it s.heap h' → (∃ u, h'.get? it = some u) → Q none { s with heap := h' }) : wpAny (model prog w) A (pyNext (.ref it)) Q E s := by
  obtain ⟨o, ho, hc, hd⟩ := id hit
  obtain ⟨ol, hol, _, nl, hdl⟩ := ht
  unfold pyNext
  refine wpAny_bind (wpAny_attempt (wpAny_callSpecial?_slot (name := Str.ofString "__next__") hit.typeIs F.slot_tuple_iterator_next
    (wpAny_call_entry F.slot_tuple_iterator_next hit.typeIs F.entry_tuple_iterator_next ?_ (F.args_tuple_iterator_next_1 _))))
  show wpAny _ _ (field (.ref it) 0 >>= _) _ _ s
  refine wpAny_bind (wpAny_field ho hd (x := .ref l) rfl ?_)
  show wpAny _ _ (if (Value.ref l == Value.none) = true then _ else _) _ _ s
  rw [if_neg (show ¬ ((Value.ref l == Value.none) = true) from Bool.false_ne_true)]
  show wpAny _ _ (field (.ref it) 1 >>= _) _ _ s
  refine wpAny_bind (wpAny_field ho hd (x := .int i 0) rfl ?_)
  show wpAny _ _ (seqItems? (.ref l) >>= _) _ _ s
  refine wpAny_bind (wpAny_seqItems hol hdl ?_)
  simp only [Int.toNat_natCast, hx]
  refine wpAny_bind (wpAny_rule (wpAny_bind (wpAny_setField ho hd (by simp) ?_)))
  show wpAny _ _ (newExc (.type "StopIteration") [] >>= _) _ _ _
  refine wpAny_bind ?_
  simp only [newExc, newTuple]
  refine wpAny_bind (wpAny_newObj_type ?_ (by size_fits))
  refine wpAny_bind (m := firstArgMember _ _) (wpAny_of_eq (a := Value.none) (by first | rfl | (simp only [firstArgMember]; rfl)) ?_)
  refine wpAny_newObj_type ?_ (by size_fits)
  simp only [raiseNew]
  refine wpAny_bind (wpAny_handled ?_)
  first | rw [show A.in1.handled = none from hh] | rw [hh]
  refine wpAny_bind (wpAny_pure (wpAny_throw ?_))
  refine wpAny_bind (wpAny_isInstance (T := "StopIteration") (b := true) ⟨_, Heap.get?_push_size _ rfl, rfl⟩ isSubtype_stop ?_)
  exact wpAny_pure (hQ _ (((Heap.SameBut.update ..).extBut.push _).push _) ⟨_, Heap.get?_push_of_some _ (Heap.get?_push_of_some _ (Heap.get?_update_self _ ho (Obj.isFreed_of_fields (Obj.data_mapFields hd _))))⟩)
end
/-- at it stands the iterator over the tuple at l, at place i -/
def TtO (l it : Addr) (i : Nat) : HO := .ext fun h => h.IsTupleIter it l i
def TtE (it : Addr) : HO := .ext fun h => ∃ u, h.get? it = some u
section
variable {P : Program} {w : World} {H : Hp} {h : Heap} {it l : Addr} {i : Nat}
theorem ttO_ok (e : h.IsTupleIter it l i) : ObjOk P w H h it (TtO l it i) := ⟨e, ⟨_, e.choose_spec.1⟩, fun h1 h2 q k => q.at k⟩
theorem ttE_ok (e : ∃ u, h.get? it = some u) : ObjOk P w H h it (TtE it) := ⟨e, e, fun h1 h2 q k => by obtain ⟨u, q⟩ := q; exact ⟨u, k _ q⟩⟩
end
section
variable {X : Cx} {pins : List (Addr × Obj)} {σ : L2.St} {H : Hp} {s : Shared} {it l C : Addr} {i : Nat}
theorem ttO_get (I : Inv X pins σ H s) (e : H it = some (TtO l it i)) : s.heap.IsTupleIter it l i := (I.hok it _ e).1
def rIterT (K : PySem.W.Frag) : List V → Hp → VK → Prop := fun xs H Q => ∃ (l : Addr) (zs : List V), xs = [.ref l] ∧ SqT K H l zs ∧ ∀ it, H it = none → Q (.ref it) (upd H it (TtO l it 0))
theorem call_iterT : CallR X (.builtin "iter") (rIterT X.K) := by
  intro pins s σ H xs us Q I r h
  obtain ⟨l, zs, rfl, hq, q⟩ := h
  obtain rfl := Vals.ref1 r
  obtain ⟨its, rv, pl, hz⟩ := I.tuple hq
  refine call_iterRaw pl ?_
  exact ⟨.ref s.heap.objs.size, _, I.laid (t' := s.toks) (fun b u e => Heap.get?_push_of_some _ e) (Nat.le_refl _) (ttO_ok ⟨_, Heap.get?_push_size _ rfl, rfl, rfl⟩), rfl, q _ (I.hok.fresh (Nat.le_refl _))⟩
theorem kcall_iterT {K : PySem.W.Frag} (h : X.K = K := by rfl) : CallR X (.builtin "iter") (rIterT K) := h ▸ call_iterT
theorem sqT_upd {K : PySem.W.Frag} {H : Hp} {a x : Addr} {xs : List V} {o u : HO} (d : H x = some u) (hu : (∃ ys, u = .lst ys) ∨ ∃ φ, u = .ext φ) (h : SqT K H a xs) : SqT K (upd H x o) a xs := by
  have ne : ∀ {v : HO}, H a = some v → (∀ ys, v ≠ .lst ys) → (∀ φ, v ≠ .ext φ) → upd H x o a = some v := fun h hn hm => by
    rw [upd_ne (fun q => by
      rw [q, d] at h
      cases h
      rcases hu with ⟨ys, e⟩ | ⟨φ, e⟩
      · exact hn _ e
      · exact hm _ e)]
    exact h
  rcases h with (h | ⟨u, h⟩) | h
  · exact .inl (.inl (ne h (fun _ q => nomatch q) fun _ q => nomatch q))
  · exact .inl (.inr ⟨u, ne h (fun _ q => nomatch q) fun _ q => nomatch q⟩)
  · exact .inr h
/-- a list filled up from a tuple's iterator -/
theorem tt_loop {A1 : Around} {Rs : Result → Shared → Prop} (hh : A1.in1.handled = none) {zs : List V} (hz : zs.length ≤ 100000) {q : Addr} {H0 : Hp} (nqi : q ≠ it)
    (hdone : ∀ H s, Inv X pins σ H s → H q = some (.lst zs) → (∀ b, b ≠ q → b ≠ it → H b = H0 b) → Rs (.ok (.ret .none)) s) :
    ∀ (m i : Nat) (H : Hp) (s : Shared), zs.length - i = m → i ≤ zs.length → Inv X pins σ H s → H it = some (TtO l it i) → SqT X.K H l zs → H q = some (.lst (zs.take i)) → (∀ b, b ≠ q → b ≠ it → H b = H0 b) →
      codeAny (model X.prog X.w) A1 (.builtin "list.extend.loop" ⟨[.ref q, .ref it, .none], []⟩) Rs s := by
  intro m
  induction m with
  | zero =>
    intro i H s hm hi I hit hl hq hb
    have : i = zs.length := by omega
    subst this
    refine codeAny_builtin PySem.F.entry_extend_loop ?_
    rw [Around.under_plainId PySem.F.plain_extend_loop _]
    show wpAny _ A1.in1 (pyNext (.ref it) >>= _) _ _ s
    obtain ⟨its, rv, pl, _⟩ := I.tuple hl
    refine wpAny_bind (next_end hh (ttO_get I hit) pl (by rw [List.getElem?_toArray]; exact List.getElem?_eq_none (by rw [← rv.length]; exact Nat.le_refl _)) fun h' ext hu => ?_)
    have mu : Mut (H it) := by rw [hit]; exact True.intro
    have I2 : Inv X pins σ (upd H it (TtE it)) { s with heap := h' } := I.write (x := it) (e := it) (t' := s.toks) mu (.inl rfl) (fun b o nb z => ext b o nb z) hu (ttE_ok hu)
    refine wpAny_pure (hdone _ _ I2 ?_ fun b n1 n2 => ?_)
    · rw [upd_ne nqi, hq, List.take_length]
    · rw [upd_ne n2]
      exact hb b n1 n2
  | succ m ih =>
    intro i H s hm hi I hit hl hq hb
    have hlt : i < zs.length := by omega
    refine codeAny_builtin PySem.F.entry_extend_loop ?_
    rw [Around.under_plainId PySem.F.plain_extend_loop _]
    show wpAny _ A1.in1 (pyNext (.ref it) >>= _) _ _ s
    obtain ⟨its, rv, pl, _⟩ := I.tuple hl
    have hx : zs[i]? = some zs[i] := List.getElem?_eq_getElem hlt
    obtain ⟨u, hu, ru⟩ := rv.get hx
    refine wpAny_bind (wpAny_pyNext_tuple_item (ttO_get I hit) pl (x := u) (by rw [List.getElem?_toArray]; exact hu) fun h' hit' sb => ?_)
    have mu : Mut (H it) := by rw [hit]; exact True.intro
    have I2 : Inv X pins σ (upd H it (TtO l it (i + 1))) { s with heap := h' } := I.write (x := it) (e := it) (t' := s.toks) mu (.inl rfl) (fun b o nb z => (sb.2 b nb).trans z) ⟨_, hit'.choose_spec.1⟩ (ttO_ok hit')
    have hq2 : upd H it (TtO l it (i + 1)) q = some (.lst (zs.take i)) := by rw [upd_ne nqi]; exact hq
    show wpAny _ A1.in1 (updateSeq q (·.push u) >>= _) _ _ _
    obtain ⟨z, its2, k, r2, hl2, e⟩ := I2.lstM hq2
    have hlen : (zs.take i).length < 100000 := by rw [List.length_take]; omega
    have hsz : (100000 : Nat) < sizeLine := by rw [sizeLine_eq]; decide
    refine wpAny_bind (wpAny_updateSeq e rfl (wpAny_pure ⟨plainId_quiet PySem.F.plain_extend_loop _, ?_⟩) (by rw [List.size_toArray]; omega) (by show (its2.toArray.push u).size ≤ sizeLine + 1; rw [Array.size_push, List.size_toArray]; omega))
    have et : zs.take i ++ [zs[i]] = zs.take (i + 1) := by rw [List.take_succ, hx]; rfl
    have I3 := I2.lset (f := (·.push u)) (its' := its2 ++ [u]) (ys := zs.take i ++ [zs[i]]) (t' := s.toks) hq2 e (by simp) (r2.append (.cons ru .nil)) (by rw [List.length_append, List.length_singleton]; omega)
    rw [et] at I3
    refine ih (i + 1) _ _ (by omega) (by omega) I3 ?_ ?_ upd_same fun b n1 n2 => ?_
    · rw [upd_ne (Ne.symm nqi)]
      exact upd_same
    · exact sqT_upd hq2 (.inl ⟨_, rfl⟩) (sqT_upd hit (.inr ⟨_, rfl⟩) hl)
    · rw [upd_ne n1, upd_ne n2]
      exact hb b n1 n2
/-- list(o): the class's own __iter__ gives a tuple's iterator, its own __len__ is asked for the room -/
def rOwnList (K : PySem.W.Frag) (C : Addr) (spI spL : Sp) : List V → Hp → VK → Prop := fun xs H Q => ∃ a dx fs, xs = [.ref a] ∧ H a = some (.ins C dx fs) ∧ ∀ q, H q = none →
  spI [.ref a] (upd H q (.lst [])) (fun v H1 => ∃ (it l : Addr) (zs : List V), v = .ref it ∧ H1 it = some (TtO l it 0) ∧ zs.length ≤ 100000 ∧ (∃ dx fs, H1 a = some (.ins C dx fs)) ∧ q ≠ it ∧
    spL [.ref a] H1 (fun u H2 => ∃ n : Int, u = .int n ∧ 0 ≤ n ∧ n ≤ 100000 ∧ H2 it = some (TtO l it 0) ∧ SqT K H2 l zs ∧ H2 q = some (.lst []) ∧ ∀ H3, H3 q = some (.lst zs) → (∀ b, b ≠ q → b ≠ it → H3 b = H2 b) → Q (.ref q) H3) E0) E0
theorem cr_ownList {k : Nat} {fI fL : Addr} {fdI fdL : FuncData} {psI psL : List Str} {spI spL : Sp} (FI : FnOk X.prog X.w X.K X.mg X.base CX0 k fI fdI psI spI) (bI : Binds X.K fdI psI []) (OI : Own X.K C "__iter__" fI)
    (FL : FnOk X.prog X.w X.K X.mg X.base CX0 k fL fdL psL spL) (bL : Binds X.K fdL psL []) (OL : Own X.K C "__len__" fL) (hc : X.calm = true) (hr : Room (k + 3) X.A) : CallR X (.type "list") (rOwnList X.K C spI spL) := by
  intro pins s σ H xs us Q I rv h
  obtain ⟨a, dx, fs, rfl, ha, hq⟩ := h
  obtain ⟨u, rfl, ru⟩ := rv.one
  cases ru
  refine callType_codes (Q₁ := fun obj s₁ => obj = .ref s.heap.objs.size ∧ s₁ = { s with heap := s.heap.push { cls := .type "list", data := .seq #[] } }) PySem.F.called_list (PySem.F.typeCall_list_1 _) PySem.F.entry_list_init
    (code_list_new _ ⟨rfl, rfl⟩) fun obj s₁ h₁ => ?_
  obtain ⟨rfl, rfl⟩ := h₁
  have hS : (s.heap.push { cls := .type "list", data := .seq #[] }).get? s.heap.objs.size = some { cls := .type "list", data := .seq #[] } := Heap.get?_push_size _ rfl
  refine ⟨⟨_, hS, rfl⟩, PySem.F.args_list_init_2 _ _, ?_⟩
  have fr : H s.heap.objs.size = none := I.hok.fresh (Nat.le_refl _)
  have hq := hq _ fr
  have I1 : Inv X pins σ (upd H s.heap.objs.size (.lst [])) { s with heap := s.heap.push { cls := .type "list", data := .seq #[] } } := I.lnew (its := []) (t' := s.toks) .nil (Nat.zero_le _)
  show wpAny _ _ (do let old ← Builtin.List.listItems (.ref s.heap.objs.size); Builtin.List.listUpdate (.ref s.heap.objs.size) (fun _ => #[]); letGo old.toList.reverse; Builtin.List.listExtendWith (.ref s.heap.objs.size) (.ref a) .none) _ _ _
  refine wpAny_bind ?_
  unfold Builtin.List.listItems
  refine wpAny_bind (wpAny_seqItems hS rfl (wpAny_pure ?_))
  show wpAny _ _ (updateSeq s.heap.objs.size (fun _ => #[]) >>= fun _ => letGo (#[] : Array Value).toList.reverse >>= fun _ => Builtin.List.listExtendWith (.ref s.heap.objs.size) (.ref a) .none) _ _ _
  refine wpAny_bind (wpAny_updateSeq hS rfl ?_)
  have I2 := I1.lset (f := fun _ => #[]) (its := []) (its' := []) (ys := []) (t' := s.toks) upd_same hS rfl .nil (Nat.zero_le _)
  rw [upd_upd] at I2
  refine wpAny_bind (wpAny_letGo ?_)
  have ha2 : upd H s.heap.objs.size (.lst []) a = some (.ins C dx fs) := by rw [upd_ne (ne_of_none ha fr)]; exact ha
  have hne : s.heap.objs.size ≠ a := fun z => by rw [z, ha] at fr; cases fr
  generalize s.heap.objs.size = q at hq I2 ha2 hne
  obtain ⟨mA, J, _⟩ := ins_get I2.hok ha2
  obtain ⟨od, J, _⟩ := J.look
  obtain ⟨m0, hF⟩ := I2.fr
  unfold Builtin.List.listExtendWith
  refine wpAny_bind (J.type.here ?_)
  have h1 : Builtin.List.listSameRef (.ref q) (.ref a) = false := by simp [Builtin.List.listSameRef, hne]
  have h2 : (Value.ref C == Value.type "list") = false := rfl
  have h3 : (Value.ref C == Value.type "tuple") = false := rfl
  simp only [h1, h2, h3, Bool.or_false, Bool.false_eq_true, if_false]
  have hr1 : Room k X.A.in1.in1 := (hr.in1.in1).mono (by omega)
  have hr2 : Room k X.A.in1.in1.in1 := hr.in1.in1.in1
  refine wpAny_bind (PySem.W.owit_iter hF I2.ok.mod.kin J OI.at_ OI.fn (wpAny_mono (own_run (A := X.A.in1.in1) rfl hr1 FI bI I2 (show Vals [V.ref a] [Value.ref a] from .cons rfl .nil) hq) (fun v s1 hq1 => ?_) fun _ _ z => z))
  obtain ⟨x, H1, I3, rx, it, l, zs, rfl, hit, hz, ⟨dx1, fs1, ha3⟩, nqi, hL⟩ := hq1
  cases rx
  unfold PySem.W.OwitIt
  refine wpAny_specialOf (name := Str.ofString "__next__") (ttO_get I3 hit).typeIs PySem.F.slot_tuple_iterator_next.lookup ?_
  obtain ⟨mA3, J3, _⟩ := ins_get I3.hok ha3
  obtain ⟨od3, J3, _⟩ := J3.look
  obtain ⟨m3, hF3⟩ := I3.fr
  refine wpAny_bind (wpAny_holding ?_)
  unfold Builtin.List.listLengthHint
  refine wpAny_bind (wpAny_bind (J3.type.here ((PySem.W.looks_findIn I3.kIn OL.at_).here ?_)))
  refine PySem.W.KFB.if_not rfl ?_
  show wpAny _ _ (rule "list.length-hint.len" >>= fun _ => _) _ _ _
  refine wpAny_bind (wpAny_rule ?_)
  have hlen := PySem.W.len_K (prog := X.prog) (w := X.w) (A := X.A.in1.in1) (Q := fun u s' => ∃ (H2 : Hp) (n : Int) (t : Tok), u = .int n t ∧ Inv X pins σ H2 s' ∧ 0 ≤ n ∧ n ≤ 100000 ∧ H2 it = some (TtO l it 0) ∧ SqT X.K H2 l zs ∧ H2 q = some (.lst []) ∧ ∀ H3, H3 q = some (.lst zs) → (∀ b, b ≠ q → b ≠ it → H3 b = H2 b) → Q (.ref q) H3)
    hF3 I3.ok.mod.kin J3 OL.at_ OL.fn (wpAny_mono (own_run (A := X.A.in1.in1.in1) (E' := fun _ _ => False) rfl hr2 FL bL I3 (show Vals [V.ref a] [Value.ref a] from .cons rfl .nil) hL) (fun v s' q => by
      obtain ⟨z, H', I', rz, n, rfl, n0, n1, q⟩ := q
      obtain ⟨t, rfl⟩ := rz
      exact ⟨⟨n0, by omega⟩, H', n, _, rfl, I'.tok _, n0, n1, q⟩) fun _ _ q => q)
  refine wpAny_bind (wpAny_attempt (wpAny_mono hlen (fun v s2 q2 => ?_) fun _ _ z => z.elim))
  obtain ⟨H2, n, t, rfl, I4, n0, n1, hit4, hl4, hq4, k4⟩ := q2
  show wpAny _ _ (asInt? (.int n t) >>= _) _ _ _
  refine wpAny_bind (wpAny_pure ?_)
  have hlong : Builtin.List.listTooLong n.toNat = false := by
    unfold Builtin.List.listTooLong
    rw [decide_eq_false_iff_not]
    rw [sizeLine_eq]
    omega
  show wpAny _ _ (if Builtin.List.listTooLong n.toNat = true then _ else _) _ _ _
  rw [if_neg (by rw [hlong]; exact Bool.false_ne_true)]
  refine wpAny_pure ?_
  obtain ⟨z, its, kk, r3, hl3, e3⟩ := I4.lstM hq4
  cases r3
  have hdn : ∀ (H : Hp) (s' : Shared), Inv X pins σ H s' → H q = some (.lst zs) → (∀ b, b ≠ q → b ≠ it → H b = H2 b) → (wants (fun r s₂ => r = Value.none ∧ EP X pins σ Q (.ref q) s₂) X.xe) (.ok (.ret .none)) s' := fun H s' I' h1 h2 => ⟨rfl, .ref q, H, I', rfl, k4 H h1 h2⟩
  refine wpAny_ite_split (fun _ => ?_) (fun _ => wpAny_pure ⟨plainId_quiet PySem.F.plain_extend_loop _, tt_loop (A1 := X.A.in1) (I.ok.hd hc) hz nqi hdn _ 0 H2 _ rfl (Nat.zero_le _) I4 hit4 hl4 hq4 fun _ _ _ => rfl⟩)
  refine wpAny_bind (wpAny_rule ?_)
  refine wpAny_bind ?_
  show wpAny _ _ (updateSeq q (·.push .none) >>= fun _ => updateSeq q (·.pop)) _ _ _
  refine wpAny_bind (wpAny_updateSeq e3 rfl ?_)
  have I5 := I4.lset (f := (·.push Value.none)) (its' := [Value.none]) (ys := [.non]) (t' := s2.toks) hq4 e3 (by simp) (.cons rfl .nil) (by rw [List.length_singleton, sizeLine_eq]; decide)
  obtain ⟨z4, its4, k5, r4, hl5, e4⟩ := I5.lstM upd_same
  obtain ⟨u4, rfl, ru4⟩ := r4.one
  refine wpAny_updateSeq e4 rfl ?_ (by show 1 ≤ sizeLine; rw [sizeLine_eq]; decide) (by show 0 ≤ sizeLine + 1; exact Nat.zero_le _)
  have I6 := I5.lset (f := (·.pop)) (its := [u4]) (its' := []) (ys := []) (t' := s2.toks) upd_same e4 (by rfl) .nil (Nat.zero_le _)
  rw [upd_upd] at I6
  have hH : upd H2 q (.lst []) = H2 := by
    funext b
    by_cases hb : b = q
    · rw [hb, upd_same, hq4]
    · rw [upd_ne hb]
  rw [hH] at I6
  exact wpAny_pure ⟨plainId_quiet PySem.F.plain_extend_loop _, tt_loop (A1 := X.A.in1) (I.ok.hd hc) hz nqi hdn _ 0 H2 _ rfl (Nat.zero_le _) I6 hit4 hl4 hq4 fun _ _ _ => rfl⟩
theorem kcr_ownList {K : PySem.W.Frag} {k k' j : Nat} {spI spL : Sp} (MI : Ow X.prog X.w X.K X.mg X.base k C "__iter__" spI) (ML : Ow X.prog X.w X.K X.mg X.base k' C "__len__" spL) (hc : X.calm = true) (hr : Room j X.A) (h1 : k + 3 ≤ j) (h2 : k' + 3 ≤ j) (h : X.K = K := by rfl) : CallR X (.type "list") (rOwnList K C spI spL) := by
  subst h
  obtain ⟨fI, fdI, psI, OI, FI, bI⟩ := MI.ex
  obtain ⟨fL, fdL, psL, OL, FL, bL⟩ := ML.ex
  exact cr_ownList (FI.mono (Nat.le_max_left k k')) bI OI (FL.mono (Nat.le_max_right k k')) bL OL hc (hr.mono (by omega))
end
end N0

namespace N0
open PySem PySem.Spec PyProof.Rows L2 HT
section
variable {prog : Program} {w : World} {A : Around} {R : Result → Shared → Prop} {s : Shared} {elt t0 i0 t1 i1 : Expr} {scope : Scope} {pos : Pos} {it acc : Value} {env : Env}
abbrev Sc2 (elt t0 i0 t1 i1 : Expr) (scope : Scope) (pos : Pos) : Expr := .SetComp elt [⟨t0, i0, [], 0⟩, ⟨t1, i1, [], 0⟩] scope pos
theorem sturnA : compTurn (Sc2 elt t0 i0 t1 i1 scope pos) 0 it acc env = (do
    standAt i0.pos
    match ← pyNext it with
    | none => pure (.done .next)
    | some v =>
      letOwnedTupleGo t0 it v
      assign t0 env v
      let ok ← (pure true : Sem Bool)
      if ok then
        let x ← eval i1 env
        standAt i1.pos
        let x ← foldedSetIterable i1 env x
        let _ ← runOwn (.compStart (Sc2 elt t0 i0 t1 i1 scope pos) 1 (← holding [x] (pyIter x)) acc env) env
      again (.compLoop (Sc2 elt t0 i0 t1 i1 scope pos) 0 it acc env)) := by rfl
theorem sturnB : compTurn (Sc2 elt t0 i0 t1 i1 scope pos) 1 it acc env = (do
    standAt i1.pos
    match ← pyNext it with
    | none => pure (.done .next)
    | some v =>
      letOwnedTupleGo t1 it v
      assign t1 env v
      let ok ← (pure true : Sem Bool)
      if ok then
        (do let v ← eval elt env; standAt elt.pos; let _ ← call (.builtin "set.add") [acc, v])
      again (.compLoop (Sc2 elt t0 i0 t1 i1 scope pos) 1 it acc env)) := by rfl
/-- an error within the block, told to the frame -/
abbrev erS (prog : Program) (w : World) (A : Around) (env : Env) (R : Result → Shared → Prop) : Value → Shared → Prop := notedBy (model prog w) A env fun e s' => R (.error e) s'
/-- the turns of the first clause -/
theorem sloopA (hs : ∀ x, foldedSetIterable i1 env x = pure x) (I : Nat → Shared → Prop)
    (turn : ∀ n s, I n s → wpAny (model prog w) A (pyNext it) (fun r a => match r with
      | none => R (.ok .next) a
      | some v => wpAny (model prog w) A (letOwnedTupleGo t0 it v) (fun _ b => wpAny (model prog w) A (assign t0 env v) (fun _ c =>
          wpAny (model prog w) A (eval i1 env) (fun x d => wpAny (model prog w) A (pyIter x) (fun it1 e =>
            codeAny (model prog w) A (.compStart (Sc2 elt t0 i0 t1 i1 scope pos) 1 it1 acc env) (fun r f => match r with | .ok _ => ∃ m, m < n ∧ I m f | .error _ => False) e)
            (erS prog w A env R) d) (erS prog w A env R) c) (erS prog w A env R) b) (erS prog w A env R) a) (erS prog w A env R) s)
    (n : Nat) (h : I n s) : codeAny (model prog w) A (.compLoop (Sc2 elt t0 i0 t1 i1 scope pos) 0 it acc env) R s := by
  refine codeAny_loop rfl I (fun n s hI => ?_) n h
  show wpAny _ A ((compTurn (Sc2 elt t0 i0 t1 i1 scope pos) 0 it acc env).onRaise (fun x => do noteFrame x env; theTreesLotGoes x)) _ _ s
  refine wpAny_noted ?_
  rw [sturnA]
  refine wpAny_bind (wpAny_standAt (wpAny_bind (wpAny_mono (turn n s hI) (fun r a ha => ?_) fun _ _ z => z)))
  match r, ha with
  | none, ha => exact wpAny_pure ha
  | some v, ha =>
    refine wpAny_bind (wpAny_mono ha (fun _ b hb => wpAny_bind (wpAny_mono hb (fun _ c hc => wpAny_bind (wpAny_pure ?_)) fun _ _ z => z)) fun _ _ z => z)
    refine wpAny_bind (wpAny_mono hc (fun x d hd => ?_) fun _ _ z => z)
    refine wpAny_bind (wpAny_standAt (wpAny_bind (wpAny_of_eq (hs x) (wpAny_bind (wpAny_holding (wpAny_mono hd (fun it1 e he => ?_) fun _ _ z => z))))))
    refine wpAny_bind (wpAny_runOwn ?_)
    rw [Around.mark_none]
    refine codeAny_mono he fun r f hr => ?_
    match r, hr with
    | .ok _, hr => first | exact wpAny_pure ⟨rfl, hr⟩ | exact wpAny_bind (wpAny_pure (wpAny_pure ⟨rfl, hr⟩))
    | .error _, hr => exact hr.elim
/-- the turns of the second clause -/
theorem sloopB (I : Nat → Shared → Prop)
    (turn : ∀ n s, I n s → wpAny (model prog w) A (pyNext it) (fun r a => match r with
      | none => R (.ok .next) a
      | some v => wpAny (model prog w) A (letOwnedTupleGo t1 it v) (fun _ b => wpAny (model prog w) A (assign t1 env v) (fun _ c =>
          wpAny (model prog w) A (eval elt env) (fun x d => wpAny (model prog w) A (call (.builtin "set.add") [acc, x]) (fun _ e => ∃ m, m < n ∧ I m e) (erS prog w A env R) d) (erS prog w A env R) c) (erS prog w A env R) b) (erS prog w A env R) a) (erS prog w A env R) s)
    (n : Nat) (h : I n s) : codeAny (model prog w) A (.compLoop (Sc2 elt t0 i0 t1 i1 scope pos) 1 it acc env) R s := by
  refine codeAny_loop rfl I (fun n s hI => ?_) n h
  show wpAny _ A ((compTurn (Sc2 elt t0 i0 t1 i1 scope pos) 1 it acc env).onRaise (fun x => do noteFrame x env; theTreesLotGoes x)) _ _ s
  refine wpAny_noted ?_
  rw [sturnB]
  refine wpAny_bind (wpAny_standAt (wpAny_bind (wpAny_mono (turn n s hI) (fun r a ha => ?_) fun _ _ z => z)))
  match r, ha with
  | none, ha => exact wpAny_pure ha
  | some v, ha =>
    refine wpAny_bind (wpAny_mono ha (fun _ b hb => wpAny_bind (wpAny_mono hb (fun _ c hc => wpAny_bind (wpAny_pure ?_)) fun _ _ z => z)) fun _ _ z => z)
    exact wpAny_bind (wpAny_bind (wpAny_mono hc (fun x d hd => wpAny_bind (wpAny_standAt (wpAny_bind (wpAny_mono hd (fun _ e he => wpAny_pure (wpAny_pure ⟨rfl, he⟩)) fun _ _ z => z)))) fun _ _ z => z))
/-- the second clause begins -/
theorem sstartB (h0 : codeAny (model prog w) A (.compLoop (Sc2 elt t0 i0 t1 i1 scope pos) 1 it acc env) R s)
    (h : wpAny (model prog w) A (pyIter it) (fun j a => codeAny (model prog w) A (.compLoop (Sc2 elt t0 i0 t1 i1 scope pos) 1 j acc env) R a) (notedBy (model prog w) A env fun x a => R (.error x) a) s) :
    codeAny (model prog w) A (.compStart (Sc2 elt t0 i0 t1 i1 scope pos) 1 it acc env) R s := by
  refine codeAny_of_tree ?_
  show wpAny _ _ ((compStart (Sc2 elt t0 i0 t1 i1 scope pos) 1 it acc env).onRaise (fun x => do noteFrame x env; standAt theWindowsPlace)) _ _ s
  refine wpAny_notedAt ?_
  unfold compStart
  show wpAny _ _ (ask >>= _) _ _ s
  refine wpAny_bind (wpAny_askSetting (wpAny_ite ?_))
  split
  · first | exact wpAny_bind (wpAny_pure (wpAny_pure ⟨rfl, h0⟩)) | exact wpAny_pure ⟨rfl, h0⟩
  · refine wpAny_bind (wpAny_rule ?_)
    show wpAny _ _ (standAt i1.pos >>= _) _ _ s
    exact wpAny_bind (wpAny_standAt (wpAny_bind (wpAny_mono h (fun j a z => wpAny_pure ⟨rfl, z⟩) fun _ _ z => z)))
end
section
variable {X : Cx} {pins : List (Addr × Obj)} {σ : L2.St} {H : Hp} {s : Shared}
/-- a number put into a set -/
theorem addI_ok {E : Value → Shared → Prop} {D : Addr} {S : Int → Bool} {n : Nat} {y : Int} {tk : Tok} {Q : Value → Shared → Prop} (I : Inv X pins σ H s) (hD : H D = some (SetO X.w D S n)) (room : n + 1 < scanBound)
    (h : ∀ a, Inv X pins σ (upd H D (SetO X.w D (fun j => S j || decide (j = y)) (if S y = true then n else n + 1))) a → Q .none a) : wpAny (model X.prog X.w) X.A (call (.builtin "set.add") [.ref D, .int y tk]) Q E s := by
  refine setR_add (setO_get I hD) room fun g sb new => h _ (I.write (e := D) (t' := s.toks + 1) (by rw [hD]; trivial) (.inl rfl) (fun b u hb hu => (sb.2 b hb).trans hu) ?_ (setO_new new))
  have ⟨o, _, _, _, ho, _⟩ := new
  exact ⟨o, ho⟩
/-- {elt for t0 in i0 for t1 in i1}, elt a number -/
def tSc2 (w : World) (wi : TI) (g : TG) (wj : TI) (g' : TG) (te : TE) (vs vs' : List Nat) : TE := fun σ H Q => wi σ H fun J G => ∀ D, G D = none → ∃ W : Nat → Nat → Hp → Prop, (∃ m, W 0 m (upd G D (SetO w D (fun _ => false) 0))) ∧ ∀ i m G, W i m G →
  (J.stop i G ∧ Q (.ref D) G) ∨ (J.go i G ∧ ∃ Nx : Hp → Prop, (∀ F, Nx F → ∃ m', m' < m ∧ W (i + 1) m' F) ∧ ∀ x F, J.yld i G x F → g x (wipe σ vs) F fun τ F => wipe τ vs = wipe σ vs ∧
    wj τ F fun J' F => ∃ W' : Nat → Nat → Hp → Prop, (∃ m, W' 0 m F) ∧ ∀ j k F, W' j k F →
      (J'.stop j F ∧ Nx F) ∨ (J'.go j F ∧ ∃ Ny : Hp → Prop, (∀ F', Ny F' → ∃ k', k' < k ∧ W' (j + 1) k' F') ∧ ∀ x F', J'.yld j F x F' → g' x (wipe τ vs') F' fun ρ F' => wipe ρ vs' = wipe τ vs' ∧
        te ρ F' fun y F' => ∃ (c : Int) (S : Int → Bool) (n : Nat), y = .int c ∧ F' D = some (SetO w D S n) ∧ n + 1 < scanBound ∧ Ny (upd F' D (SetO w D (fun j => S j || decide (j = c)) (if S c = true then n else n + 1)))))
variable {elt t0 i0 t1 i1 : Expr} {scope : Scope} {own : List (PySem.Str × Nat)} {vs' : List Nat} {pos : Pos} {wi wj : TI} {g g' : TG} {te : TE}
/-- a rule for each part, in the block -/
structure BlkR (X : Cx) (scope : Scope) (t0 t1 i1 elt : Expr) (g g' : TG) (wj : TI) (te : TE) : Prop where
  g : ∀ s H C cl fp, PG (X.blk s H scope (compEnvC scope cl C X.env) fp) t0 g
  j : ∀ s H C cl fp, PI (X.blk s H scope (compEnvC scope cl C X.env) fp) t1 i1 wj
  g' : ∀ s H C cl fp, PG (X.blk s H scope (compEnvC scope cl C X.env) fp) t1 g'
  e : ∀ s H C cl fp, PE (X.blk s H scope (compEnvC scope cl C X.env) fp) elt te
theorem pe_sc2 (hc : X.calm = true) (hN : X.N.Nodup) (hi : PI X t0 i0 wi) (ok : BlkOk X.N X.env.scope scope own) (hv : ∀ i ∈ vs', i ∈ own.map (·.2)) (B : BlkR X scope t0 t1 i1 elt g g' wj te)
    (hs : ∀ x, foldedSetIterable i0 X.env x = pure x := by intro _; rfl) (hs' : ∀ env x, foldedSetIterable i1 env x = pure x := by intro _ _; rfl) :
    PE X (Sc2 elt t0 i0 t1 i1 scope pos) (tSc2 X.w wi g wj g' te (own.map (·.2)) vs') := by
  refine ⟨fun pins s σ H Q I h => ?_⟩
  show wpAny _ _ (comprehension (Sc2 elt t0 i0 t1 i1 scope pos) scope X.env (firstIterPos [⟨t0, i0, [], 0⟩, ⟨t1, i1, [], 0⟩] pos) (newSet (.type "set")) false (eval i0 X.env)) _ _ s
  have cap : ∀ y ∈ scope.names, y.2 = .free → ∃ c, X.env.cells.lookup y.1 = some c := fun y hy e => (ok.free y hy e).elim (fun k => I.ok.has _ (.inl k)) fun k => I.ok.has _ (.inr k)
  refine wpAny_comprehension_free rfl hs (closure_ok cap) ok.kind (fun y hy e => by rw [ok.uniq y hy, e]) (thn (hi.run pins s σ H _ I h) fun xv sa hx => thn hx fun itv sb hb => ?_)
  obtain ⟨it, fp, tn, J, G, rfl, Ib, T, stb, fb, q⟩ := hb
  refine PpSet.newSet_ok (newEnv_comp ?_)
  obtain ⟨D, hD⟩ : ∃ D, sb.heap.objs.size = D := ⟨_, rfl⟩
  obtain ⟨W, ⟨m0, w0⟩, turn⟩ := q D (Ib.hok.fresh (Nat.le_of_eq hD))
  rw [hD]
  -- the new set
  obtain ⟨sc, esc⟩ : ∃ sc : Shared, ({ sb with heap := sb.heap.push { cls := .type "set", dict := none, data := .set #[] 0 (.fresh 0 0 (!X.w.params.followText "set-order")) } } : Shared) = sc := ⟨_, rfl⟩
  have hsc : sc.heap = sb.heap.push { cls := .type "set", dict := none, data := .set #[] 0 (.fresh 0 0 (!X.w.params.followText "set-order")) } := by rw [← esc]
  rw [esc]
  obtain ⟨GD, eGD⟩ : ∃ GD, upd G D (SetO X.w D (fun _ => false) 0) = GD := ⟨_, rfl⟩
  rw [eGD] at w0
  have Ic : Inv X pins σ GD sc := by
    rw [← esc, ← eGD]
    exact Ib.laid (t' := sb.toks) (fun b o e => Heap.get?_push_of_some _ e) (Nat.le_of_eq hD) (by rw [← hD]; exact setO_new (setR_fresh X.w))
  have fc : ∀ b ∈ fp, FpOk X pins GD b ∧ b < sc.heap.objs.size := fun b hb => by
    obtain ⟨o, e, _⟩ := T.obj _ _ stb b hb
    have lt := Heap.lt_size e
    refine ⟨⟨?_, (fb b hb).2⟩, by rw [hsc, Heap.size_push]; exact Nat.lt_succ_of_lt lt⟩
    rw [← eGD, upd_ne (by rw [← hD]; exact Nat.ne_of_lt lt)]
    exact (fb b hb).1
  have stc : tn 0 sc.heap := T.keep _ _ _ stb fun b _ o e => by rw [hsc]; exact Heap.get?_push_of_some _ e
  have Id := block_start Ic ok hN fc
  obtain ⟨ce, hce⟩ : ∃ ce, compEnvC scope (cellsFrom (sc.heap.objs.size + 1) scope.names (cloFrom X.env.cells scope.names [])) sc.heap.objs.size X.env = ce := ⟨_, rfl⟩
  have pg := B.g sc GD sc.heap.objs.size (cellsFrom (sc.heap.objs.size + 1) scope.names (cloFrom X.env.cells scope.names [])) fp
  have pj := B.j sc GD sc.heap.objs.size (cellsFrom (sc.heap.objs.size + 1) scope.names (cloFrom X.env.cells scope.names [])) fp
  have pg' := B.g' sc GD sc.heap.objs.size (cellsFrom (sc.heap.objs.size + 1) scope.names (cloFrom X.env.cells scope.names [])) fp
  have pe := B.e sc GD sc.heap.objs.size (cellsFrom (sc.heap.objs.size + 1) scope.names (cloFrom X.env.cells scope.names [])) fp
  rw [hce] at pg pj pg' pe Id
  have cL : ce.locals = sc.heap.objs.size := by rw [← hce]; rfl
  obtain ⟨sd, esd⟩ : ∃ sd : Shared, ({ sc with heap := pushCells (sc.heap.push { cls := .type "dict", data := .dict #[] }) scope.names } : Shared) = sd := ⟨_, rfl⟩
  rw [esd] at Id
  have std : tn 0 sd.heap := T.keep _ _ _ stc fun b _ o e => by rw [← esd]; exact pushCells_keeps _ _ _ _ (Heap.get?_push_of_some _ e)
  obtain ⟨Y, eY⟩ : ∃ Y, X.blk sc GD scope ce fp = Y := ⟨_, rfl⟩
  have stat : ∀ {τ : L2.St} {F : Hp} {a : Shared}, Inv (X.blk sc GD scope ce fp) [] τ F a → (∀ b ∈ fp, F b = none) → ∀ b ∈ fp, FpOk (X.blk sc GD scope ce fp) [] F b := fun {τ F a} Ia hn b hb =>
    ⟨hn b hb, (Ia.ok.exf b hb).1, Ia.ok.exfs b hb, .inl hb, fun x c e => (Ia.ok.exf b hb).2 x c e, fun p hp => nomatch (show p ∈ ([] : List (Addr × Obj)) from hp)⟩
  have fin0 : ∀ {F : Hp} {a : Shared}, Inv (X.blk sc GD scope ce fp) [] (wipe σ (own.map (·.2))) F a → Q (.ref D) F → compPost (model X.prog X.w) X.A X.xe none (EP X pins σ Q) (.ref D) sc.heap.objs.size (.ok .next) a := fun {F a} Ia qq => by
    have Ie : Inv X pins σ F a := Ic.call' (ch := fp) Ia.os Ia.base Ia.hok Ia.bare fun b hb => by
      obtain ⟨_, f1, f2, f3, f4, f5⟩ := (fc b hb).1
      exact ⟨f3, f1, f4, f5⟩
    have nC : F sc.heap.objs.size = none := by
      have z : F ce.locals = none := Ia.free
      rwa [cL] at z
    obtain ⟨m, hn, _⟩ := Ia.loc
    have hn : a.heap.Ns ce.locals m := hn
    rw [cL] at hn
    obtain ⟨_, f1, f2, f3, f4, f5⟩ := Ic.fpOk (H' := F) (Nat.le_refl _) nC
    exact ⟨m, hn, fun k sm => ⟨.ref D, F, Ie.turned (t' := a.toks) (fun b o hb e => (sm.2 b hb).trans e) nC f1 f3 f4 f5, rfl, qq⟩⟩
  show codeAny _ _ (.compStart (Sc2 elt t0 i0 t1 i1 scope pos) 0 (.ref it) (.ref D) (compEnvC scope (cellsFrom (sc.heap.objs.size + 1) scope.names (cloFrom X.env.cells scope.names [])) sc.heap.objs.size X.env)) (compPost (model X.prog X.w) X.A X.xe none (EP X pins σ Q) (.ref D) sc.heap.objs.size) _
  rw [hce, esd]
  refine PpSet.codeAny_compStart_set (rest := [⟨t1, i1, [], 0⟩]) ?L (T.self X.A 0 _ _ _ std ?L)
  refine sloopA (hs' ce) (fun n a => ∃ i F, Inv (X.blk sc GD scope ce fp) [] (wipe σ (own.map (·.2))) F a ∧ tn i a.heap ∧ (∀ b ∈ fp, F b = none) ∧ W i n F) ?_ m0 ⟨0, GD, Id, std, fun b hb => (fc b hb).1.1, w0⟩
  rintro n a ⟨i, F, Ia, sta, na, wa⟩
  rcases turn i n F wa with ⟨stop, qq⟩ | ⟨go, Nx, hNx, step⟩
  · refine thnF (T.done (X.blk sc GD scope ce fp) rfl rfl rfl hc i [] a _ F (fun _ _ => False) Ia (stat Ia na) sta stop) fun r b ⟨hr, Iz⟩ => ?_
    subst hr
    exact fin0 Iz qq
  · refine thnF (T.item (X.blk sc GD scope ce fp) rfl rfl rfl hc i [] a _ F (fun _ _ => False) Ia (stat Ia na) sta go) fun r b ⟨u, hr, hb⟩ => ?_
    subst hr
    refine thnF hb fun _ c ⟨x, Fc, Iy, rx, yx, sty, ny⟩ => ?_
    have Iy' := Iy.pinned (stat Iy ny) (T.obj _ _ sty)
    refine thnF (pg.run _ c _ Fc x u _ Iy' rx (step x Fc yx)) fun _ d ⟨τ, Fd, Iτ, hwτ, qτ⟩ => ?_
    have lτ : (wipe σ (own.map (·.2))).length = τ.length := by rw [← hwτ, wipe_length]
    have kτ : ∀ (j : Nat) v, (wipe σ (own.map (·.2)))[j]? = some (some v) → (wipe τ vs')[j]? = some (some v) := fun j v e => by
      rw [← hwτ] at e
      rw [wipe_out fun z => (wipe_some e).2 (hv j z)]
      exact (wipe_some e).1
    -- the end of a turn of the first clause
    have next : ∀ {F' : Hp} {z : Shared}, Inv (X.blk sc GD scope ce fp) ([] ++ pinsAt fp c.heap) (wipe τ vs') F' z → Nx F' →
        ∃ m, m < n ∧ ∃ i F, Inv (X.blk sc GD scope ce fp) [] (wipe σ (own.map (·.2))) F z ∧ tn i z.heap ∧ (∀ b ∈ fp, F b = none) ∧ W i m F := fun {F' z} Iz nx => by
      obtain ⟨m', hm, w'⟩ := hNx F' nx
      have pin : ∀ b ∈ fp, ∀ o, c.heap.get? b = some o → z.heap.get? b = some o ∧ F' b = none := fun b hb o e => by
        obtain ⟨p1, p2, _⟩ := Iz.pin (b, o) (List.mem_append_right _ (List.mem_append_right _ (mem_pinsAt hb e)))
        exact ⟨p1, p2⟩
      refine ⟨m', hm, i + 1, F', (Iz.unpinned (pins := [])).weak (lτ.trans (wipe_length τ vs').symm) kτ, T.keep _ _ _ sty fun b hb o e => (pin b hb o e).1, fun b hb => ?_, w'⟩
      obtain ⟨o, e, _⟩ := T.obj _ _ sty b hb
      exact (pin b hb o e).2
    refine thnF (pj.run _ d τ Fd _ Iτ qτ) fun xv e hx => thnF hx fun itv f hf => ?_
    obtain ⟨it', fp', tn', J', Ff, rfl, If, T', stf, ff, W', ⟨m1, w1⟩, turn'⟩ := hf
    have stat' : ∀ {F' : Hp}, (∀ b ∈ fp', F' b = none) → ∀ b ∈ fp', FpOk (X.blk sc GD scope ce fp) ([] ++ pinsAt fp c.heap) F' b := fun hn b hb => ⟨hn b hb, (ff b hb).2⟩
    refine sstartB ?M (T'.self X.A 0 _ _ _ stf ?M)
    refine sloopB (fun k z => ∃ j F', Inv (X.blk sc GD scope ce fp) ([] ++ pinsAt fp c.heap) (wipe τ vs') F' z ∧ tn' j z.heap ∧ (∀ b ∈ fp', F' b = none) ∧ W' j k F') ?_ m1 ⟨0, Ff, If.weak (wipe_length _ _) (fun j v e => (wipe_some e).1), stf, fun b hb => (ff b hb).1, w1⟩
    rintro k z ⟨j, F', Iz, stz, nz, wz⟩
    rcases turn' j k F' wz with ⟨stop', nx⟩ | ⟨go', Ny, hNy, step'⟩
    · refine thnF (T'.done (X.blk sc GD scope ce fp) rfl rfl rfl hc j _ z (wipe τ vs') F' (fun _ _ => False) Iz (stat' nz) stz stop') fun r b ⟨hr, Iw⟩ => ?_
      subst hr
      exact next Iw nx
    · refine thnF (T'.item (X.blk sc GD scope ce fp) rfl rfl rfl hc j _ z (wipe τ vs') F' (fun _ _ => False) Iz (stat' nz) stz go') fun r b ⟨u1, hr, hb1⟩ => ?_
      subst hr
      refine thnF hb1 fun _ z2 ⟨x1, F2, Iw, r1, y1, stw, nw⟩ => ?_
      have Iw' := Iw.pinned (stat' nw) (T'.obj _ _ stw)
      refine thnF (pg'.run _ z2 (wipe τ vs') F2 x1 u1 _ Iw' r1 (step' x1 F2 y1)) fun _ z3 ⟨ρ, F3, Iρ, hwρ, qρ⟩ => ?_
      refine thnF (pe.run _ z3 ρ F3 _ Iρ qρ) fun v z4 ⟨yv, F4, Iv, rv, cc, S, nn, ey, hS, hz, ny⟩ => ?_
      subst ey
      obtain ⟨tk, rfl⟩ := rv
      refine addI_ok (X := X.blk sc GD scope ce fp) Iv hS hz fun z5 Iu => ?_
      obtain ⟨m', hm, w'⟩ := hNy _ ny
      have pin : ∀ b ∈ fp', ∀ o, z2.heap.get? b = some o → z5.heap.get? b = some o ∧ _ := fun b hb o e => by
        obtain ⟨p1, p2, _⟩ := Iu.pin (b, o) (List.mem_append_right _ (List.mem_append_right _ (mem_pinsAt hb e)))
        exact ⟨p1, p2⟩
      refine ⟨m', hm, j + 1, _, Iu.unpinned.weak (by rw [← hwρ, wipe_length]) (fun j v e => by rw [← hwρ] at e; exact (wipe_some e).1), T'.keep _ _ _ stw fun b hb o e => (pin b hb o e).1, fun b hb => ?_, w'⟩
      obtain ⟨o, e, _⟩ := T'.obj _ _ stw b hb
      exact (pin b hb o e).2
end
end N0

/-! sets by value: {.. for .. in .. for .. in ..} of numbers, sorted -/
namespace N0
open PySem PySem.Spec PyProof.Rows L2 HT
section
variable {K : PySem.W.Frag} {H : Hp} {σ : L2.St} {w : World}
/-- what an inner loop walks over, the heap left as it is; it goes on while what stood at the start stands -/
def EvJ (wi : TI) (σ : L2.St) (H : Hp) (xs : List V) : Prop := ∀ H1, Same H H1 → ∀ R : It → Hp → Prop, (∀ J, Walk J xs.length (fun H' => Same H H') (YAt xs) → R J H1) → wi σ H1 R
theorem ej_tup {i : Nat} {a : Addr} {xs : List V} (hv : σ[i]? = some (some (.ref a))) (h : SqT K H a xs) : EvJ (iTup K (tVar i)) σ H xs := fun H1 e R r =>
  ⟨.ref a, hv, a, rfl, ⟨xs, same_tup e h⟩, r _ (walk_tup.mono (fun H' e3 => same_tup e3 h) fun _ _ _ _ _ _ y => y)⟩
/-- a set at D of the numbers of L, all else as in H -/
def SetSt (w : World) (H : Hp) (D : Addr) (L : List Int) (F : Hp) : Prop := Same H F ∧ ∃ (S : Int → Bool) (n : Nat), F D = some (SetO w D S n) ∧ n ≤ L.length ∧ ∀ k, S k = decide (k ∈ L)
theorem SetSt.put {D : Addr} {L : List Int} {F : Hp} {c : Int} {S : Int → Bool} {n : Nat} (hD : H D = none) (e : Same H F) (hn : n ≤ L.length) (hk : ∀ k, S k = decide (k ∈ L)) :
    SetSt w H D (L ++ [c]) (upd F D (SetO w D (fun j => S j || decide (j = c)) (if S c = true then n else n + 1))) := by
  refine ⟨same_mut e hD, _, _, upd_same, ?_, fun k => ?_⟩
  · rw [List.length_append, List.length_singleton]
    split <;> omega
  · show (S k || decide (k = c)) = _
    rw [hk k]
    by_cases h1 : k ∈ L
    · simp [h1]
    · by_cases h2 : k = c
      · simp [h2]
      · simp [h1, h2]
abbrev flatN {α : Type} (n : Nat) (zs : Nat → List V) (f : Nat → V → α) : List α := (List.range n).flatMap fun i => (zs i).map (f i)
theorem flatN_succ {α : Type} (n : Nat) (zs : Nat → List V) (f : Nat → V → α) : flatN (n + 1) zs f = flatN n zs f ++ (zs n).map (f n) := by
  unfold flatN
  rw [List.range_succ, List.flatMap_append, List.flatMap_singleton]
theorem flatN_mono {α : Type} {zs : Nat → List V} {f : Nat → V → α} {m : Nat} : ∀ {n : Nat}, m ≤ n → (flatN m zs f).length ≤ (flatN n zs f).length
  | 0, h => by rw [Nat.le_zero.mp h]; exact Nat.le_refl _
  | n + 1, h => by
    rcases Nat.eq_or_lt_of_le h with e | l
    · rw [e]; exact Nat.le_refl _
    · have := flatN_mono (zs := zs) (f := f) (Nat.le_of_lt_succ l)
      rw [flatN_succ, List.length_append]
      omega
theorem es_sc2 {wi wj : TI} {g g' : TG} {te : TE} {vs vs' : List Nat} {xs : List V} (zs : Nat → List V) (f : Nat → V → Int) (τ : Nat → L2.St) (ρ : Nat → V → L2.St)
    (hi : EvI wi σ H xs) (hz : (flatN xs.length zs f).length ≤ 1000) (hg : ∀ i x, xs[i]? = some x → ∀ H' Q, Q (τ i) H' → g x (wipe σ vs) H' Q) (hw : ∀ i, i < xs.length → wipe (τ i) vs = wipe σ vs)
    (hj : ∀ i x, xs[i]? = some x → EvJ wj (τ i) H (zs i)) (hg' : ∀ i, i < xs.length → ∀ z ∈ zs i, ∀ H' Q, Q (ρ i z) H' → g' z (wipe (τ i) vs') H' Q) (hw' : ∀ i, i < xs.length → ∀ z ∈ zs i, wipe (ρ i z) vs' = wipe (τ i) vs')
    (he : ∀ i, i < xs.length → ∀ z ∈ zs i, EvS te (ρ i z) H (IsV (.int (f i z)))) :
    EvS (tSc2 w wi g wj g' te vs vs') σ H (fun v H' => ∃ (D : Addr) (S : Int → Bool) (n : Nat), v = .ref D ∧ H' D = some (SetO w D S n) ∧ H D = none ∧ n ≤ (flatN xs.length zs f).length ∧ ∀ k, S k = decide (k ∈ flatN xs.length zs f)) := fun H1 e Q q =>
  hi H1 e _ fun J H2 e2 W D hD => by
    have e02 := Same.trans e e2
    have hD0 : H D = none := Same.free e02 hD
    refine ⟨fun i m F => m = xs.length - i ∧ i ≤ xs.length ∧ SetSt w H2 D (flatN i zs f) F, ⟨xs.length, by omega, Nat.zero_le _, new_same hD, _, _, upd_same, Nat.zero_le _, fun k => by simp [flatN]⟩, ?_⟩
    rintro i m F ⟨rfl, hi, s1, S, n, sD, hn, hk⟩
    by_cases hlt : i < xs.length
    · refine .inr ⟨W.goes i F hlt s1, SetSt w H2 D (flatN (i + 1) zs f), fun F' p => ⟨xs.length - (i + 1), by omega, rfl, hlt, p⟩, fun x F' y => ?_⟩
      obtain ⟨rfl, hx⟩ := W.yields i F x F' hlt s1 y
      refine hg i x hx _ _ ⟨hw i hlt, hj i x hx _ (Same.trans e02 s1) _ fun J' W' => ?_⟩
      refine ⟨fun j k F => k = (zs i).length - j ∧ j ≤ (zs i).length ∧ SetSt w H2 D (flatN i zs f ++ ((zs i).take j).map (f i)) F, ⟨(zs i).length, by omega, Nat.zero_le _, s1, S, n, sD, by rw [List.take_zero, List.map_nil, List.append_nil]; exact hn, fun k => by rw [List.take_zero, List.map_nil, List.append_nil]; exact hk k⟩, ?_⟩
      rintro j k F ⟨rfl, hjl, t1, S', n', tD, hn', hk'⟩
      have bd : (flatN i zs f ++ ((zs i).take j).map (f i)).length ≤ 1000 := by
        have b1 := flatN_mono (zs := zs) (f := f) (show i + 1 ≤ xs.length from hlt)
        rw [flatN_succ, List.length_append, List.length_map] at b1
        rw [List.length_append, List.length_map, List.length_take]
        omega
      by_cases hlt' : j < (zs i).length
      · refine .inr ⟨W'.goes j F hlt' (Same.trans e02 t1), SetSt w H2 D (flatN i zs f ++ ((zs i).take (j + 1)).map (f i)), fun F' p => ⟨(zs i).length - (j + 1), by omega, rfl, hlt', p⟩, fun z F' y => ?_⟩
        obtain ⟨rfl, hzj⟩ := W'.yields j F z F' hlt' (Same.trans e02 t1) y
        have hzm : z ∈ zs i := List.mem_of_getElem? hzj
        refine hg' i hlt z hzm _ _ ⟨hw' i hlt z hzm, he i hlt z hzm _ (Same.trans e02 t1) _ fun v F4 e4 ev => ⟨f i z, S', n', ev, e4 _ _ tD, ?_, ?_⟩⟩
        · exact Nat.lt_of_le_of_lt (Nat.succ_le_succ (Nat.le_trans hn' bd)) (by decide)
        · have et : (zs i).take (j + 1) = (zs i).take j ++ [z] := by
            rw [List.take_succ, hzj]
            rfl
          rw [et, List.map_append, ← List.append_assoc]
          exact SetSt.put hD (Same.trans t1 e4) hn' hk'
      · have ej : j = (zs i).length := by omega
        subst ej
        refine .inl ⟨W'.stops F (Same.trans e02 t1), ?_⟩
        rw [flatN_succ]
        rw [List.take_length] at hn' hk'
        exact ⟨t1, S', n', tD, hn', hk'⟩
    · have ei : i = xs.length := by omega
      subst ei
      exact .inl ⟨W.stops F s1, q _ _ (Same.trans e2 s1) ⟨D, S, n, rfl, sD, hD0, hn, hk⟩⟩
end
end N0

/-! dicts of numbers by value: comprehensions, reading, items; x = {comprehension} -/
namespace N0
open PySem PySem.Spec PyProof.Rows L2 HT
section
variable {X : Cx} {K : PySem.W.Frag} {w : World}
theorem bo_sorted : bootBuiltins "sorted" = some (.builtin "sorted") := by decide +kernel
theorem kcr_sortedSet (hc : X.calm = true) (h : X.w = w := by rfl) : CallR X (.builtin "sorted") (rSortedSet w) := h ▸ cr_sortedSet hc
theorem kpe_sc2 {elt t0 i0 t1 i1 : Expr} {scope : Scope} {own : List (PySem.Str × Nat)} {vs' : List Nat} {pos : Pos} {wi wj : TI} {g g' : TG} {te : TE} (hc : X.calm = true) (hN : X.N.Nodup) (hi : PI X t0 i0 wi) (ok : BlkOk X.N X.env.scope scope own) (hv : ∀ i ∈ vs', i ∈ own.map (·.2)) (B : BlkR X scope t0 t1 i1 elt g g' wj te) (hw : X.w = w := by rfl)
    (hs : ∀ x, foldedSetIterable i0 X.env x = pure x := by intro _; rfl) (hs' : ∀ env x, foldedSetIterable i1 env x = pure x := by intro _ _; rfl) :
    PE X (Sc2 elt t0 i0 t1 i1 scope pos) (tSc2 w wi g wj g' te (own.map (·.2)) vs') := hw ▸ pe_sc2 hc hN hi ok hv B hs hs'
/-- y = {k: v for ..}: the target is stored within the block -/
theorem ps_setDc {i : Nat} {y : Str} {py : Pos} {kx vx tg iter : Expr} {ifs : List Expr} {scope : Scope} {own : List (Str × Nat)} {pos spos : Pos} {wi : TI} {g : TG} {tt : TT} {tk tv : TE} (hc : X.calm = true) (hN : X.N.Nodup) (hy : X.N[i]? = some y) (hyl : X.env.scope.names.lookup y = some .local)
    (hsw : swapsWith (.DictComp kx vx [⟨tg, iter, ifs, 0⟩] scope pos) (some (.Name y py)) spos.line X.env = pure true) (hi : PI X tg iter wi) (ok : BlkOk X.N X.env.scope scope own)
    (hg : ∀ s H C cl fp, PG (X.blk s H scope (compEnvC scope cl C X.env) fp) tg g) (ht : ∀ s H C cl fp, PTs (X.blk s H scope (compEnvC scope cl C X.env) fp) ifs tt)
    (hk : ∀ s H C cl fp, PE (X.blk s H scope (compEnvC scope cl C X.env) fp) kx tk) (he : ∀ s H C cl fp, PE (X.blk s H scope (compEnvC scope cl C X.env) fp) vx tv) (hs : ∀ x, foldedSetIterable iter X.env x = pure x := by intro _; rfl) :
    PS X (.Assign [.Name y py] (.DictComp kx vx [⟨tg, iter, ifs, 0⟩] scope pos) spos) (tAsg (tDc wi g tt tk tv (own.map (·.2))) (gName i)) := by
  refine ⟨fun pins s σ H D I h => ?_⟩
  rw [exec_Assign_Name_used _ _ _ _ hsw]
  refine wpAny_bind (wpAny_standAt (wpAny_bind (m := comprehension _ _ _ _ _ _ _ _ >>= fun _ => pure _) ?_))
  refine wpAny_bind (thn (dc_core (Qf := fun _ a => SP X pins D .next a) hc hN I hi ok hg ht hk he hs h fun L C a m F Ia q hn f => ?_) fun _ a hq => wpAny_pure (wpAny_pure hq))
  refine wpAny_assign_Name (store_ok2 (v := V.ref L) Ia hN hy (.inl hyl) rfl (fun b Ib ⟨r, sb, hr⟩ => ?_) (.inr hyl))
  obtain ⟨f0, f1, f2, f3, f4, f5⟩ := f
  have ne : C ≠ r := hr.elim (fun z => z ▸ f1) fun z e => f4 y r z e.symm
  exact ⟨m, hn.sameBut sb ne, fun k sk => ⟨_, F, Ib.turned (t' := b.toks) (fun p o hp e => (sk.2 p hp).trans e) f0 f1 f3 f4 f5, q⟩⟩
end
theorem swD_true {kx vx : Expr} {gs : List Comprehension} {scope : Scope} {pos py : Pos} {y : Str} {l : Nat} {env : Env} (hk : env.scope.kind = .function) (hy : env.scope.names.lookup y = some .local) (hl : (py.line == pos.line) = true)
    (ha : (scope.names.any fun (n, k) => n == y && (k == .local || k == .cell)) = false) : swapsWith (.DictComp kx vx gs scope pos) (some (.Name y py)) l env = pure true := by
  have ky : env.kindOf y = some .local := hy
  have hb : env.blockKind = .function := by rw [Env.blockKind, hk]; rfl
  rw [swapsWith]
  simp only [hb, ky, ha, Expr.pos, hl]
  rfl
section
variable {K : PySem.W.Frag} {H : Hp} {σ : L2.St}
/-- nothing stands: what is shown over it holds over every heap -/
abbrev hE : Hp := fun _ => none
theorem same_hE : Same hE H := fun _ _ h => nomatch h
theorem evs_up {te : TE} {P : V → Hp → Prop} (h : EvS te σ hE P) : EvS te σ H P := fun H1 _ Q q => h H1 same_hE Q q
abbrev kvI (ps : List (Int × Int)) : List (Key × V) := ps.map fun p => (Sum.inl p.1, V.int p.2)
theorem kvI_app (a b : List (Int × Int)) : kvI (a ++ b) = kvI a ++ kvI b := List.map_append
theorem kvI_at {ps : List (Int × Int)} {j : Nat} (h : j < ps.length) : (kvI ps)[j]? = some (Sum.inl ps[j].1, V.int ps[j].2) := by
  rw [List.getElem?_map, List.getElem?_eq_getElem h]
  rfl
theorem valV_kvI (x : Int) : ∀ ps : List (Int × Int), valV (kvI ps) (Sum.inl x) = (ps.find? fun p => decide (p.1 = x)).map fun p => V.int p.2
  | [] => rfl
  | p :: ps => by
    show valV ((Sum.inl p.1, V.int p.2) :: kvI ps) _ = _
    rw [List.find?_cons]
    by_cases h : p.1 = x
    · rw [valV_pos (by show Sum.inl p.1 = _; rw [h])]
      simp [h]
    · rw [valV_neg (by show ¬ (Sum.inl p.1 : Key) = _; intro q; exact h (Sum.inl.inj q)), valV_kvI x ps]
      simp [h]
theorem putK_new {kvs : List (Key × V)} {k : Key} {v : V} (h : valV kvs k = none) : putK kvs k v = kvs ++ [(k, v)] := by
  unfold putK
  rw [valV_any, h]
  rfl
theorem find_none {x : Int} {ps : List (Int × Int)} (h : x ∉ ps.map (·.1)) : (ps.find? fun p => decide (p.1 = x)) = none := by
  rw [List.find?_eq_none]
  intro p hp q
  exact h (List.mem_map.mpr ⟨p, hp, of_decide_eq_true q⟩)
/-- a dict comprehension over a walk -/
theorem dc_it {J : It} {n : Nat} {G : Hp → Prop} {Y : Nat → Hp → V → Hp → Prop} (w : Walk J n G Y) {g : TG} {tt : TT} {tk tv : TE} {vs : List Nat} {H1 : Hp} {D : Addr} {Qd : Hp → Prop} (Pv : Nat → Hp → Prop) (h0 : Pv 0 (upd H1 D (.dK []))) (hG : ∀ i F, i ≤ n → Pv i F → G F)
    (hs : ∀ i x F F', i < n → Pv i F → Y i F x F' → g x (wipe σ vs) F' fun ρ A => wipe ρ vs = wipe σ vs ∧ tt ρ A fun b B => if b = true then tk ρ B fun y C => tv ρ C fun z E => ∃ kvs k, y = kV k ∧ E D = some (.dK kvs) ∧ kvs.length < sizeLine ∧ Pv (i + 1) (upd E D (.dK (putK kvs k z))) else Pv (i + 1) B)
    (hd : ∀ F, Pv n F → Qd F) :
    ∃ W : Nat → Nat → Hp → Prop, (∃ m, W 0 m (upd H1 D (.dK []))) ∧ ∀ i m F, W i m F → (J.stop i F ∧ Qd F) ∨ (J.go i F ∧ ∃ Nx : Hp → Prop, (∀ F', Nx F' → ∃ m', m' < m ∧ W (i + 1) m' F') ∧ ∀ x F', J.yld i F x F' → g x (wipe σ vs) F' fun ρ A => wipe ρ vs = wipe σ vs ∧ tt ρ A fun b B =>
      if b = true then tk ρ B fun y C => tv ρ C fun z E => ∃ kvs k, y = kV k ∧ E D = some (.dK kvs) ∧ kvs.length < sizeLine ∧ Nx (upd E D (.dK (putK kvs k z))) else Nx B) := by
  refine ⟨fun i m F => m = n - i ∧ i ≤ n ∧ Pv i F, ⟨n, by omega, Nat.zero_le _, h0⟩, ?_⟩
  rintro i m F ⟨rfl, hi, p⟩
  have q := hG i F hi p
  by_cases hlt : i < n
  · exact .inr ⟨w.goes i F hlt q, Pv (i + 1), fun F' p' => ⟨n - (i + 1), by omega, rfl, hlt, p'⟩, fun x F' y => hs i x F F' hlt p (w.yields i F x F' hlt q y)⟩
  · have e : i = n := by omega
    subst e
    exact .inl ⟨w.stops F q, hd F p⟩
/-- {i: f i for i in ..}, over numbers all unlike -/
theorem es_dcI {wi : TI} {g : TG} {tk tv : TE} {vs : List Nat} {ns : List Int} (f : Int → Int) (τ : Int → L2.St) (hi : EvI wi σ H (ns.map V.int)) (nd : ns.Nodup) (hz : ns.length ≤ 100000)
    (hg : ∀ i ∈ ns, ∀ H' Q, Q (τ i) H' → g (.int i) (wipe σ vs) H' Q) (hw : ∀ i ∈ ns, wipe (τ i) vs = wipe σ vs) (hk : ∀ i ∈ ns, EvS tk (τ i) H (IsV (.int i))) (he : ∀ i ∈ ns, EvS tv (τ i) H (IsV (.int (f i)))) :
    EvS (tDc wi g tYes tk tv vs) σ H (fun v H' => ∃ D, v = .ref D ∧ H' D = some (.dK (kvI (ns.map fun i => (i, f i)))) ∧ H D = none) := fun H1 e Q q =>
  hi H1 e _ fun J H2 e2 W D hD => by
    have e02 := Same.trans e e2
    refine dc_it W (fun i F => Same H2 F ∧ i ≤ ns.length ∧ F D = some (.dK (kvI ((ns.take i).map fun i => (i, f i))))) ⟨new_same hD, Nat.zero_le _, upd_same⟩ (fun i F _ p => p.1) (fun i x F F' hlt p y => ?_) fun F p => ?_
    · obtain ⟨e3, _, d3⟩ := p
      obtain ⟨rfl, hx⟩ := y
      rw [List.length_map] at hlt
      rw [List.getElem?_map, List.getElem?_eq_getElem hlt] at hx
      cases hx
      have hm : ns[i] ∈ ns := List.getElem_mem _
      have et : ns.take (i + 1) = ns.take i ++ [ns[i]] := by
        rw [List.take_succ, List.getElem?_eq_getElem hlt]
        rfl
      refine hg _ hm _ _ ⟨hw _ hm, ?_⟩
      show tk _ _ _
      refine hk _ hm _ (Same.trans e02 e3) _ fun v H4 e4 ev => he _ hm _ (Same.trans (Same.trans e02 e3) e4) _ fun u H5 e5 eu => ⟨_, Sum.inl ns[i], ev, (Same.trans e4 e5) _ _ d3, Nat.lt_of_le_of_lt (m := 100000) ?_ (by decide), same_mut (Same.trans (Same.trans e3 e4) e5) hD, hlt, ?_⟩
      · rw [List.length_map, List.length_map, List.length_take]
        omega
      · have nk : valV (kvI ((ns.take i).map fun i => (i, f i))) (Sum.inl ns[i]) = none := by
          rw [valV_kvI, find_none]
          · rfl
          · rw [List.map_map]
            intro hmem
            obtain ⟨k, hk, ek⟩ := List.mem_map.mp hmem
            obtain ⟨j, hj, rfl⟩ := List.mem_iff_getElem.mp hk
            rw [List.getElem_take] at ek
            rw [List.length_take] at hj
            have := (List.getElem_inj (h₀ := by omega) (h₁ := hlt) nd).mp (show ns[j] = ns[i] from ek)
            omega
        rw [upd_same, putK_new nk, et, eu, List.map_append, kvI_app]
        rfl
    · obtain ⟨e3, _, d3⟩ := p
      rw [List.length_map, List.take_length] at d3
      exact q _ _ (Same.trans e2 e3) ⟨D, rfl, d3, Same.free e02 hD⟩
/-- d = {k: f k v for k, v in d.items()} -/
theorem dcItems_seq {i a b : Nat} {tv : TE} {x : TS} {D : Ends} {d : Addr} {ps : List (Int × Int)} (f : Int → Int → Int) (τ : Int → Int → L2.St) (hv : σ[i]? = some (some (.ref d))) (hd : H d = some (.dK (kvI ps))) (nd : (ps.map (·.1)).Nodup) (hz : ps.length ≤ 1000)
    (hτ : ∀ k v, ((wipe σ [a, b]).set a (some (.int k))).set b (some (.int v)) = τ k v) (hw : ∀ k v, wipe (τ k v) [a, b] = wipe σ [a, b]) (ha : ∀ k v, (τ k v)[a]? = some (some (.int k))) (he : ∀ k v, EvS tv (τ k v) hE (IsV (.int (f k v))))
    (rest : ∀ D' H', Same H H' → H' D' = some (.dK (kvI (ps.map fun p => (p.1, f p.1 p.2)))) → H D' = none → x D (σ.set i (some (.ref D'))) H') :
    tSeq (tLock (tAsg (tDc (iItems (tVar i)) (gTup K 2 (gCons (gName a) (gCons (gName b) gNil))) tYes (tVar a) tv [a, b]) (gName i))) x D σ H := by
  refine ⟨d, _, hd, True.intro, fun od => ⟨.ref d, hv, d, od, kvI ps, rfl, upd_same, fun D' hD' => ?_⟩⟩
  have nDd : D' ≠ d := fun z => by rw [z, upd_same] at hD'; cases hD'
  have hD0 : H D' = none := by rwa [upd_ne nDd] at hD'
  refine dc_it (walk_items (d := d) (o := od)) (fun j F => Same (upd H d (.frz od (.dK (kvI ps)))) F ∧ j ≤ ps.length ∧ F D' = some (.dK (kvI ((ps.take j).map fun p => (p.1, f p.1 p.2))))) ⟨new_same hD', Nat.zero_le _, upd_same⟩ (fun j F _ p => p.1 _ _ upd_same) (fun j y F F' hlt p z => ?_) fun F p => ?_
  · obtain ⟨e3, _, d3⟩ := p
    obtain ⟨T, k', v', rfl, hT, rfl, h1, h2⟩ := z
    rw [List.length_map] at hlt
    have h1 : (kvI ps)[j]?.map (fun kv => kV kv.1) = some k' := h1
    have h2 : (kvI ps)[j]?.map Prod.snd = some v' := h2
    rw [kvI_at hlt] at h1 h2
    cases h1
    cases h2
    have et : ps.take (j + 1) = ps.take j ++ [ps[j]] := by
      rw [List.take_succ, List.getElem?_eq_getElem hlt]
      rfl
    have nT : T ≠ D' := fun z => by rw [z, d3] at hT; cases hT
    refine ⟨T, _, rfl, tup_of upd_same, rfl, _, _, rfl, _, _, rfl, rfl, ?_⟩
    rw [show ((wipe σ [a, b]).set a (some (kV (Sum.inl ps[j].1)))).set b (some (V.int ps[j].2)) = τ ps[j].1 ps[j].2 from hτ _ _]
    refine ⟨hw _ _, _, ha _ _, ?_⟩
    have e4 : Same (upd H d (.frz od (.dK (kvI ps)))) (upd F T (.tup [V.int ps[j].1, V.int ps[j].2])) := Same.trans e3 (new_same hT)
    refine he _ _ _ same_hE _ fun u H5 e5 eu => ⟨_, Sum.inl ps[j].1, rfl, e5 _ _ ((new_same hT) _ _ d3), Nat.lt_of_le_of_lt (m := 1000) ?_ (by decide), same_mut (Same.trans e4 e5) hD', hlt, ?_⟩
    · rw [List.length_map, List.length_map, List.length_take]
      omega
    · have nk : valV (kvI ((ps.take j).map fun p => (p.1, f p.1 p.2))) (Sum.inl ps[j].1) = none := by
        rw [valV_kvI, find_none]
        · rfl
        · rw [List.map_map]
          intro hmem
          obtain ⟨k, hk, ek⟩ := List.mem_map.mp hmem
          obtain ⟨m, hm, rfl⟩ := List.mem_iff_getElem.mp hk
          rw [List.getElem_take] at ek
          rw [List.length_take] at hm
          have l0 : m < (ps.map (·.1)).length := by rw [List.length_map]; omega
          have l1 : j < (ps.map (·.1)).length := by rw [List.length_map]; exact hlt
          have := (List.getElem_inj (h₀ := l0) (h₁ := l1) nd).mp (by rw [List.getElem_map, List.getElem_map]; exact ek)
          omega
      rw [upd_same, putK_new nk, et, eu, List.map_append, kvI_app]
      rfl
  · obtain ⟨e3, _, d3⟩ := p
    rw [List.length_map, List.take_length] at d3
    refine ⟨e3 _ _ upd_same, rest D' _ (fun c o hc => ?_) ?_ hD0⟩
    · by_cases hcd : c = d
      · rw [hcd] at hc ⊢
        rw [upd_same, ← hd, hc]
      · rw [upd_ne hcd]
        exact e3 _ _ (by rw [upd_ne hcd]; exact hc)
    · rw [upd_ne nDd]
      exact d3
/-- d[k], the key there -/
theorem es_dgI {td ty : TE} {d : Addr} {ps : List (Int × Int)} {k v : Int} (hd : H d = some (.dK (kvI ps))) (h1 : EvS td σ H (IsV (.ref d))) (h2 : EvS ty σ H (IsV (.int k))) (hf : (ps.find? fun p => decide (p.1 = k)).map (·.2) = some v) : EvS (tDGet td ty) σ H (IsV (.int v)) := fun H1 e Q q =>
  h1 H1 e _ fun x H2 e2 ex => h2 H2 (Same.trans e e2) _ fun y H3 e3 ey => by
    subst ex ey
    refine ⟨d, .int v, rfl, ?_, q _ _ (Same.trans e2 e3) rfl⟩
    have := DGet.k (k := Sum.inl k) ((Same.trans (Same.trans e e2) e3) _ _ hd)
    rw [valV_kvI] at this
    cases hz : ps.find? fun p => decide (p.1 = k) with
    | none => rw [hz] at hf; cases hf
    | some p =>
      rw [hz] at this hf
      cases hf
      exact this
end
end N0

/-! more by value: [.. for .. in .. for .. in ..], all(..), range(a, b), a field stored -/
namespace N0
open PySem PySem.Spec PyProof.Rows L2 HT
/-- what isinstance asks of an own class -/
structure InstK (K : PySem.W.Frag) (C : Addr) : Prop where
  ha : PySem.W.findIn K (.ref C) "__class__" = some (some (.builtin "object.__class__"))
  hn : PySem.W.specialIn K (.builtin "object.__class__") "__get__" = some (some (.builtin "getset_descriptor.__get__"))
  htk : PySem.W.takesIn K (.builtin "object.__class__") = some true
  hm : PySem.W.mroIn K C (.type "object") = some true
theorem kit_no {K : PySem.W.Frag} {C : Addr} {T : String} (h1 : PySem.W.isClsIn K C = true) (h2 : PySem.W.typeIn K (.ref C) = some (.type "type")) (h3 : PySem.W.subIn K (.type T) (.ref C) = some false) : PySem.W.kitOne K (.type T) (.ref C) = some false := by
  have h1 : (PySem.W.clsIn K C).isSome = true := h1
  unfold PySem.W.kitOne
  rw [if_neg (by simp)]
  unfold PySem.W.kitCls
  simp only
  rw [if_pos (by rw [h1, h2]; decide), h3]
theorem kit_self {K : PySem.W.Frag} {C : Addr} : PySem.W.kitOne K (.ref C) (.ref C) = some true := if_pos (by simp)
section
variable {X : Cx} {K : PySem.W.Frag} {o e : Expr} {ta tv : TE} {f : Str} {pos pos' : Pos}
theorem kps_fld (ha : PE X o ta) (hv : PE X e tv) (hs : swapsWith e (some (.Attribute o f pos')) pos.line X.env = pure false := by rfl) (h : X.K = K := by rfl) : PS X (.Assign [.Attribute o f pos'] e pos) (sFld K ta tv f) := h ▸ ps_fld ha hv hs
end
section
variable {K : PySem.W.Frag} {H : Hp} {σ : L2.St}
theorem ei_rng2 {ta tb : TE} {i j : Int} (ha : EvS ta σ H (IsV (.int i))) (hb : EvS tb σ H (IsV (.int j))) (h1 : -100000 ≤ i) (h2 : i ≤ 100000) (h3 : -100000 ≤ j) (h4 : j ≤ 100000) : EvI (iRng2 (tCons ta (tCons tb tNil))) σ H (rgV i j) := fun H1 e R r =>
  ha H1 e _ fun v H2 e2 ev => hb H2 (Same.trans e e2) _ fun u H3 e3 eu => by
    refine ⟨i, j, by rw [show v = _ from ev, show u = _ from eu], ⟨by omega, by omega, by omega, by omega⟩, r _ H3 (Same.trans e2 e3) ?_⟩
    rw [rgV_length]
    refine walk_range.mono (fun _ _ => True.intro) fun k G x G' hk _ y => ⟨y.1, ?_⟩
    unfold rgV
    rw [List.getElem?_map, List.getElem?_range hk, y.2]
    rfl
/-- [f x z for x in xs for z in zs x] -/
theorem es_lc2 {wi wj : TI} {g g' : TG} {te : TE} {vs vs' : List Nat} {xs : List V} (zs : Nat → List V) (f : Nat → V → V) (τ : Nat → L2.St) (ρ : Nat → V → L2.St)
    (hi : EvI wi σ H xs) (hz : (flatN xs.length zs f).length ≤ 1000) (hg : ∀ i x, xs[i]? = some x → ∀ H' Q, Q (τ i) H' → g x (wipe σ vs) H' Q) (hw : ∀ i, i < xs.length → wipe (τ i) vs = wipe σ vs)
    (hj : ∀ i x, xs[i]? = some x → EvJ wj (τ i) H (zs i)) (hg' : ∀ i, i < xs.length → ∀ z ∈ zs i, ∀ H' Q, Q (ρ i z) H' → g' z (wipe (τ i) vs') H' Q) (hw' : ∀ i, i < xs.length → ∀ z ∈ zs i, wipe (ρ i z) vs' = wipe (τ i) vs')
    (he : ∀ i, i < xs.length → ∀ z ∈ zs i, EvS te (ρ i z) H (IsV (f i z))) :
    EvS (tLc2 wi g tYes wj g' tYes te vs vs') σ H (NewL H (flatN xs.length zs f)) := fun H1 e Q q =>
  hi H1 e _ fun J H2 e2 W D hD => by
    have e02 := Same.trans e e2
    have hD0 : H D = none := Same.free e02 hD
    refine ⟨fun i m F => m = xs.length - i ∧ i ≤ xs.length ∧ Same H2 F ∧ F D = some (.lst (flatN i zs f)), ⟨xs.length, by omega, Nat.zero_le _, new_same hD, upd_same⟩, ?_⟩
    rintro i m F ⟨rfl, hi, s1, sD⟩
    by_cases hlt : i < xs.length
    · refine .inr ⟨W.goes i F hlt s1, fun F => Same H2 F ∧ F D = some (.lst (flatN (i + 1) zs f)), fun F' p => ⟨xs.length - (i + 1), by omega, rfl, hlt, p⟩, fun x F' y => ?_⟩
      obtain ⟨rfl, hx⟩ := W.yields i F x F' hlt s1 y
      refine hg i x hx _ _ ⟨hw i hlt, ?_⟩
      show wj _ _ _
      refine hj i x hx _ (Same.trans e02 s1) _ fun J' W' => ?_
      refine ⟨fun j k F => k = (zs i).length - j ∧ j ≤ (zs i).length ∧ Same H2 F ∧ F D = some (.lst (flatN i zs f ++ ((zs i).take j).map (f i))), ⟨(zs i).length, by omega, Nat.zero_le _, s1, by rw [List.take_zero, List.map_nil, List.append_nil]; exact sD⟩, ?_⟩
      rintro j k F ⟨rfl, hjl, t1, tD⟩
      have bd : (flatN i zs f ++ ((zs i).take j).map (f i)).length ≤ 1000 := by
        have b1 := flatN_mono (zs := zs) (f := f) (show i + 1 ≤ xs.length from hlt)
        rw [flatN_succ, List.length_append, List.length_map] at b1
        rw [List.length_append, List.length_map, List.length_take]
        omega
      by_cases hlt' : j < (zs i).length
      · refine .inr ⟨W'.goes j F hlt' (Same.trans e02 t1), fun F => Same H2 F ∧ F D = some (.lst (flatN i zs f ++ ((zs i).take (j + 1)).map (f i))), fun F' p => ⟨(zs i).length - (j + 1), by omega, rfl, hlt', p⟩, fun z F' y => ?_⟩
        obtain ⟨rfl, hzj⟩ := W'.yields j F z F' hlt' (Same.trans e02 t1) y
        have hzm : z ∈ zs i := List.mem_of_getElem? hzj
        refine hg' i hlt z hzm _ _ ⟨hw' i hlt z hzm, ?_⟩
        show te _ _ _
        refine he i hlt z hzm _ (Same.trans e02 t1) _ fun v F4 e4 ev => ⟨_, e4 _ _ tD, Nat.lt_of_le_of_lt bd (by decide), same_mut (Same.trans t1 e4) hD, ?_⟩
        have et : (zs i).take (j + 1) = (zs i).take j ++ [z] := by
          rw [List.take_succ, hzj]
          rfl
        rw [et, List.map_append, ← List.append_assoc, upd_same, show v = f i z from ev]
        rfl
      · have ej : j = (zs i).length := by omega
        subst ej
        refine .inl ⟨W'.stops F (Same.trans e02 t1), t1, ?_⟩
        rw [flatN_succ]
        rw [List.take_length] at tD
        exact tD
    · have ei : i = xs.length := by omega
      subst ei
      exact .inl ⟨W.stops F s1, q _ _ (Same.trans e2 s1) ⟨D, rfl, sD, hD0⟩⟩
/-- isinstance(x, C), C an own class -/
theorem es_isC {te tc : TE} {C : Addr} {b : Bool} (h : EvS te σ H (fun v H' => ∃ t, TyX K H' v t ∧ PySem.W.kitOne K t (.ref C) = some b)) (hc : EvS tc σ H (IsV (.ref C))) : EvS (tCB (rIsi K) (tCons te (tCons tc tNil))) σ H (IsV (.bl b)) := fun H1 e Q q =>
  h H1 e _ fun v H2 e2 ⟨t, ty, k⟩ => hc H2 (Same.trans e e2) _ fun u H3 e3 eu => by
    subst eu
    exact ⟨v, _, t, _, b, rfl, .own C, tyx_same e3 ty, k, q _ _ (Same.trans e2 e3) rfl⟩
/-- a, b = e, f, by their values -/
theorem par_seq {i j : Nat} {ta tb : TE} {x : TS} {D : Ends} {v u : V} (h1 : EvS ta σ H (IsV v)) (h2 : EvS tb σ H (IsV u)) (rest : ∀ H', Same H H' → x D ((σ.set i (some v)).set j (some u)) H') : tSeq (tPar i j (tCons ta (tCons tb tNil))) x D σ H :=
  h1 H (Same.refl _) _ fun v' H1 e1 ev => h2 H1 e1 _ fun u' H2 e2 eu => ⟨v', u', rfl, by rw [ev, eu]; exact rest H2 (Same.trans e1 e2)⟩
theorem pair_seq {i j : Nat} {ta tb : TE} {x : TS} {D : Ends} {v u : V} (h1 : EvS ta σ H (IsV v)) (h2 : EvS tb σ H (IsV u)) (rest : ∀ H', Same H H' → x D ((σ.set i (some v)).set j (some u)) H') : tSeq (tAsg (tTup (tCons ta (tCons tb tNil))) (gTup K 2 (gCons (gName i) (gCons (gName j) gNil)))) x D σ H :=
  h1 H (Same.refl _) _ fun v' H1 e1 ev => h2 H1 e1 _ fun u' H2 e2 eu => ⟨by show 2 ≤ sizeLine; decide, fun p hp => ⟨p, _, rfl, tup_of upd_same, rfl, _, _, rfl, _, _, rfl, rfl, by rw [ev, eu]; exact rest _ (Same.trans (Same.trans e1 e2) (new_same hp))⟩⟩
theorem es_min2 {ta tb : TE} {i j : Int} (h1 : EvS ta σ H (IsV (.int i))) (h2 : EvS tb σ H (IsV (.int j))) : EvS (tCB (fun xs H Q => ∃ i j, xs = [V.int i, V.int j] ∧ Q (V.int (if j < i then j else i)) H) (tCons ta (tCons tb tNil))) σ H (IsV (.int (if j < i then j else i))) := fun H1 e Q q =>
  h1 H1 e _ fun v H2 e2 ev => h2 H2 (Same.trans e e2) _ fun u H3 e3 eu => ⟨i, j, by rw [show v = _ from ev, show u = _ from eu], q _ _ (Same.trans e2 e3) rfl⟩
theorem es_max2 {ta tb : TE} {i j : Int} (h1 : EvS ta σ H (IsV (.int i))) (h2 : EvS tb σ H (IsV (.int j))) : EvS (tCB (fun xs H Q => ∃ i j, xs = [V.int i, V.int j] ∧ Q (V.int (if j > i then j else i)) H) (tCons ta (tCons tb tNil))) σ H (IsV (.int (if j > i then j else i))) := fun H1 e Q q =>
  h1 H1 e _ fun v H2 e2 ev => h2 H2 (Same.trans e e2) _ fun u H3 e3 eu => ⟨i, j, by rw [show v = _ from ev, show u = _ from eu], q _ _ (Same.trans e2 e3) rfl⟩
theorem es_all {te : TE} {bs : List Bool} (h : EvS te σ H (NewL H (bs.map V.bl))) : EvS (tCB (rAll K) (tCons te tNil)) σ H (IsV (.bl (bs.all id))) := es_cb1 h fun v H1 e ⟨D, ev, d, _⟩ Q q => ⟨D, bs, by rw [ev], lst_of d, q _ _ (Same.refl _) rfl⟩
/-- sorted(a set of numbers): those of ms -/
theorem asc_ext : ∀ {a b : List Int}, a.Pairwise (· < ·) → b.Pairwise (· < ·) → (∀ k, k ∈ a ↔ k ∈ b) → a = b
  | [], [], _, _, _ => rfl
  | [], y :: b, _, _, h => nomatch (h y).mpr List.mem_cons_self
  | x :: a, [], _, _, h => nomatch (h x).mp List.mem_cons_self
  | x :: a, y :: b, ha, hb, h => by
    obtain ⟨a1, a2⟩ := List.pairwise_cons.mp ha
    obtain ⟨b1, b2⟩ := List.pairwise_cons.mp hb
    have exy : x = y := by
      rcases List.mem_cons.mp ((h x).mp List.mem_cons_self) with e | e
      · exact e
      · rcases List.mem_cons.mp ((h y).mpr List.mem_cons_self) with e' | e'
        · exact e'.symm
        · have := b1 _ e
          have := a1 _ e'
          omega
    subst exy
    congr 1
    refine asc_ext a2 b2 fun k => ⟨fun hk => ?_, fun hk => ?_⟩
    · rcases List.mem_cons.mp ((h k).mp (List.mem_cons_of_mem _ hk)) with e | e
      · have := a1 k hk
        omega
      · exact e
    · rcases List.mem_cons.mp ((h k).mpr (List.mem_cons_of_mem _ hk)) with e | e
      · have := b1 k hk
        omega
      · exact e
theorem es_sortedI {w : World} {te : TE} {L ms : List Int} (h : EvS te σ H (fun v H' => ∃ (D : Addr) (S : Int → Bool) (n : Nat), v = .ref D ∧ H' D = some (SetO w D S n) ∧ H D = none ∧ n ≤ L.length ∧ ∀ k, S k = decide (k ∈ L)))
    (hz : L.length < 64) (hs : ms.Pairwise (· < ·)) (hm : ∀ k, k ∈ ms ↔ k ∈ L) : EvS (tCB (rSortedSet w) (tCons te tNil)) σ H (NewL H (ms.map V.int)) := es_cb1 h fun v H1 e ⟨D, S, n, ev, d, hD, hn, hk⟩ Q q =>
  ⟨D, S, n, by rw [ev], d, by omega, fun ns p h1 h2 h3 hp => by
    have : ns = ms := asc_ext h1 hs fun k => by rw [h2 k, hk k, hm k, decide_eq_true_iff]
    subst this
    exact q _ _ (new_same hp) ⟨p, rfl, upd_same, Same.free e hp⟩⟩
end
end N0

/-! enumerate over a tuple -/
namespace PySem
open Sem (wp)
theorem meets_enumerate_new1 {v : Value} {o : Obj} {H : Heap → Prop} (B : Begins v o H) :
    Meets (Builtin.«enumerate.__new__» ⟨[.type "enumerate", v], []⟩) (fun _ R s => H s.heap ∧
      R (.ok (.ret (.ref (s.heap.push o).objs.size))) { s with heap := (s.heap.push o).push { cls := .type "enumerate", data := .fields #[.none, .bool false, .ref s.heap.objs.size, rawInt 0, .none, .none] } }) :=
  .of_wp fun prog w A R s h => by
    obtain ⟨hp, g, d, tk, os⟩ := s; obtain ⟨h1, h⟩ := h
    have hsub := sub_enumerate
    have q1 : ∀ {A' : Around} {E : Value → Shared → Prop} {Q : Value → Shared → Prop}, Q (.ref hp.objs.size) ⟨hp.push o, g, d, tk, os⟩ → wpAny (model prog w) A' (pyIter v) Q E ⟨hp, g, d, tk, os⟩ :=
      fun q => B.iter prog w _ _ ⟨hp, g, d, tk, os⟩ _ h1 q
    wp_walk using q1
    refine wpAny_stack_any fun st => wpAny_pure ?_
    split
    · rename_i c _ _ _ _ _
      cases (c == Value.type "enumerate")
      · wp_walk using q1
        exact ⟨_, rfl, h⟩
      · wp_walk using q1
        exact ⟨_, rfl, h⟩
    · wp_walk using q1
      exact ⟨_, rfl, h⟩
section
variable {prog : Program} {w : World} {A : Around} {E : Value → Shared → Prop} {s : Shared}
theorem enum_begins1 {v : Value} {o : Obj} {H : Heap → Prop} {Q : Value → Shared → Prop} (B : Begins v o H) (h1 : H s.heap)
    (h : ∀ h', IsEnum h' (s.heap.objs.size + 1) s.heap.objs.size 0 .none → h'.get? s.heap.objs.size = some o → h'.objs.size = s.heap.objs.size + 2 →
      (∀ b o, s.heap.get? b = some o → h'.get? b = some o) → Q (.ref (s.heap.objs.size + 1)) { s with heap := h' }) :
    wpAny (model prog w) A (call (.type "enumerate") [v]) Q E s := by
  refine callType_new F.called_enumerate (by decide) (F.typeCall_enumerate_1 _) (F.newCall_enumerate_1 _) (fun obj => F.args_object_init_2 obj _) F.entry_enumerate_new
    (meets_enumerate_new1 B) ⟨h1, ?_⟩
  have hz : (s.heap.push o).objs.size = s.heap.objs.size + 1 := Heap.size_push ..
  show _ ∧ _
  rw [hz]
  have he : IsEnum ((s.heap.push o).push { cls := .type "enumerate", data := .fields #[.none, .bool false, .ref s.heap.objs.size, rawInt 0, .none, .none] }) (s.heap.objs.size + 1) s.heap.objs.size 0 .none := by
    have := Heap.get?_push_size (s.heap.push o) (o := { cls := .type "enumerate", data := .fields #[.none, .bool false, .ref s.heap.objs.size, rawInt 0, .none, .none] }) rfl
    rw [hz] at this; exact this
  refine ⟨⟨_, he, rfl⟩, h _ he (Heap.get?_push_of_some _ (Heap.get?_push_size _ B.free)) (by rw [Heap.size_push, hz]) fun b o x => Heap.get?_push_of_some _ (Heap.get?_push_of_some _ x)⟩
end
end PySem
namespace N0
open PySem PySem.Spec PyProof.Rows L2 HT
/-- the tuple at a, each item in a new pair -/
def IteT (K : PySem.W.Frag) (a : Addr) : It :=
  ⟨fun i H => ∃ (xs : List V) (x : V), SqT K H a xs ∧ xs[i]? = some x, fun i H v H' => ∃ T x, v = .ref T ∧ H T = none ∧ H' = upd H T (.tup [.int (i : Nat), x]) ∧ ∀ xs, SqT K H a xs → xs[i]? = some x, fun i H => ∃ xs : List V, SqT K H a xs ∧ xs.length = i⟩
theorem turn_enumT {P : Program} {w : World} {K : PySem.W.Frag} {elts : List Expr} {kk : Nat} {tpos : Pos} (a e it : Addr) (hit : a ≠ it) (hea : e ≠ a) :
    Turn P w K (.Tuple elts kk tpos) (IteT K a) [e, it] e (fun i h => (∃ old, IsEnum h e it ((i : Nat) : Int) old) ∧ h.IsTupleIter it a i ∧ e ≠ it) where
  mem := by simp
  obj := fun i h st b hb => by
    obtain ⟨⟨old, he⟩, ⟨o, ho, hc, hd⟩, _⟩ := st
    have e' : b = e ∨ b = it := by simpa using hb
    rcases e' with z | z
    · rw [z]; exact ⟨_, he, fun v q => nomatch q⟩
    · rw [z]; exact ⟨o, ho, fun v q => by rw [hd] at q; cases q⟩
  keep := fun i h h' st k => let ⟨⟨old, he⟩, hi, hne⟩ := st; ⟨⟨old, k e (by simp) _ he⟩, hi.at fun o q => k it (by simp) o q, hne⟩
  item := by
    intro X hP hw hK hc i pins s σ H E I hf st hg
    subst hP hw hK
    obtain ⟨⟨old, he⟩, hitr, hne⟩ := st
    obtain ⟨xs, x, hq, hx⟩ := hg
    obtain ⟨its, rv, p, hz⟩ := I.tuple hq
    obtain ⟨u, hu, ru⟩ := rv.get hx
    have hel : e < s.heap.objs.size := Heap.lt_size he
    have hil : it < s.heap.objs.size := by obtain ⟨_, q, _⟩ := hitr; exact Heap.lt_size q
    have hu' : its.toArray[i]? = some u := by simpa using hu
    have hlt : i < its.toArray.size := (Array.getElem?_eq_some_iff.mp hu').1
    refine wpAny_pyNext_enum_itemC (Draws.tuple (A := X.A.in1) (I.ok.hd hc) it a hit its.toArray) he ⟨hitr, p⟩ hlt hne (by simp [hne, hea]) fun x' h' tk hx' ho ⟨hit', _⟩ hT hsz hk => ?_
    obtain rfl : u = x' := Option.some.inj (hu'.symm.trans hx')
    refine ⟨_, rfl, wpAny_letOwnedTupleGo_enum (s := { s with heap := h', toks := tk + 1 }) ho fun h'' he' sb => ?_⟩
    have hT2 : h''.get? s.heap.objs.size = some { cls := .type "tuple", data := .seq #[.int i tk, u] } := (sb.2 _ (Nat.ne_of_gt hel)).trans hT
    have new : ObjOk X.prog X.w (upd H s.heap.objs.size (.tup [.int (i : Nat), x])) h'' s.heap.objs.size (.tup [.int (i : Nat), x]) :=
      ⟨by show 2 ≤ sizeLine; decide, [.int i tk, u], .cons ⟨_, rfl⟩ (.cons ru .nil), ⟨_, hT2, rfl, _, rfl⟩⟩
    have I1 : Inv X pins σ (upd H s.heap.objs.size (.tup [.int (i : Nat), x])) { s with heap := h'', toks := tk + 1 } :=
      I.turnedNew (ch := [e, it]) (fun b ob hb q => (sb.2 b (fun z => hb (by simp [z]))).trans (hk b ob (fun z => hb (by simp [z])) (fun z => hb (by simp [z])) q)) hf (Nat.le_refl _) new
    refine ⟨.ref s.heap.objs.size, _, I1, rfl, ⟨_, x, rfl, I.hok.fresh (Nat.le_refl _), rfl, fun ys hy => by rw [I.tuple_inj hy hq]; exact hx⟩, ⟨⟨u, ?_⟩, hit'.at fun o q => (sb.2 it (Ne.symm hne)).trans q, hne⟩, fun b hb => ?_⟩
    · have e1 : ((i + 1 : Nat) : Int) = (i : Int) + 1 := by omega
      rw [e1]; exact he'
    · have hb' : b < s.heap.objs.size := by
        have e' : b = e ∨ b = it := by simpa using hb
        rcases e' with z | z
        · rw [z]; exact hel
        · rw [z]; exact hil
      rw [upd_ne (Nat.ne_of_lt hb')]
      exact (hf b hb).1
  done := by
    intro X hP hw hK hc i pins s σ H E I hf st hg
    subst hP hw hK
    obtain ⟨⟨old, he⟩, hitr, hne⟩ := st
    obtain ⟨xs, hq, hx⟩ := hg
    obtain ⟨its, rv, p, hz⟩ := I.tuple hq
    obtain ⟨f0, f1, f2, f3, f4, f5⟩ := hf it (by simp)
    have hl := rv.length
    have hsz : its.toArray.size = i := by simp; omega
    have he2 : IsEnum s.heap e it ((its.toArray.size : Nat) : Int) old := by rw [hsz]; exact he
    have hi2 : s.heap.IsTupleIter it a its.toArray.size := by rw [hsz]; exact hitr
    exact wpAny_pyNext_enum_endD (Draws.tuple (A := X.A.in1) (I.ok.hd hc) it a hit its.toArray) he2 ⟨hi2, p⟩ fun h' eb => ⟨rfl, I.turned (t' := s.toks) (fun b o hb q => eb b o hb q) f0 f1 f3 f4 f5⟩
  self := fun A i s Q E st h => let ⟨⟨_, he⟩, _⟩ := st; wpAny_pyIter_enum he h
/-- enumerate of a list or a tuple -/
def iEnumA (K : PySem.W.Frag) (ta : TA) : TI := fun σ H R => ta σ H fun vs H1 => ∃ a xs, vs = [.ref a] ∧ ((SqL K H1 a xs ∧ R (Ite K a) H1) ∨ (SqT K H1 a xs ∧ R (IteT K a) H1))
theorem pi_enumA {X : Cx} {e : Expr} {ta : TA} {p pos tpos : Pos} {elts : List Expr} {kk : Nat} (hg : Gl X "enumerate") (hm : X.mg "enumerate" = none) (ha : PA X [e] ta) (hs : starEach [e] X.env = [(false, eval e X.env)] := by rfl) :
    PI X (.Tuple elts kk tpos) (.Call (.Name "enumerate" p) [e] [] pos) (iEnumA X.K ta) := by
  refine ⟨fun pins s σ H R I h => ?_⟩
  refine Call_ (ld_blt I hg hm boot_enumerate (PyProof.Rows.callWith_type1 (thn (ha.run pos pins s σ H _ I h) fun us s1 ⟨vs, H1, I1, r1, q1⟩ => ?_) hs rfl))
  obtain ⟨a, xs, ex, q1⟩ := q1
  subst ex
  cases r1 with
  | cons r rr =>
    cases rr
    cases r
    have fresh2 : ∀ b, b ∈ [s1.heap.objs.size + 1, s1.heap.objs.size] → FpOk X pins H1 b := fun b hb => by
      have e' : b = s1.heap.objs.size + 1 ∨ b = s1.heap.objs.size := by simpa using hb
      have hle : s1.heap.objs.size ≤ b := by
        rcases e' with z | z
        · rw [z]; exact Nat.le_add_right _ _
        · rw [z]; exact Nat.le_refl _
      exact I1.fpOk hle (I1.hok.fresh hle)
    rcases q1 with ⟨hq, q⟩ | ⟨hq, q⟩
    · obtain ⟨its, rv, p', hz⟩ := I1.list hq
      refine call_enumerate_list p'.isList fun h' he hit hsz hk => wpAny_pyIter_enum he ?_
      have I2 : Inv X pins σ H1 { s1 with heap := h' } := I1.kept (t' := s1.toks) hk
      exact ⟨s1.heap.objs.size + 1, [s1.heap.objs.size + 1, s1.heap.objs.size], _, _, H1, rfl, I2, turn_enum a (s1.heap.objs.size + 1) s1.heap.objs.size, ⟨⟨.none, he⟩, hit, Nat.succ_ne_self _⟩, fresh2, q⟩
    · obtain ⟨its, rv, p', hz⟩ := I1.tuple hq
      have hal : a < s1.heap.objs.size := by obtain ⟨_, q, _⟩ := p'; exact Heap.lt_size q
      refine enum_begins1 (begins_tuple a its.toArray) p' fun h' he hit hsz hk => wpAny_pyIter_enum he ?_
      have I2 : Inv X pins σ H1 { s1 with heap := h' } := I1.kept (t' := s1.toks) hk
      exact ⟨s1.heap.objs.size + 1, [s1.heap.objs.size + 1, s1.heap.objs.size], _, _, H1, rfl, I2, turn_enumT a (s1.heap.objs.size + 1) s1.heap.objs.size (Nat.ne_of_lt hal) (Nat.ne_of_gt (Nat.lt_succ_of_lt hal)), ⟨⟨.none, he⟩, ⟨_, hit, rfl, rfl⟩, Nat.succ_ne_self _⟩, fresh2, q⟩
end N0
namespace N0
open PySem PySem.Spec PyProof.Rows L2 HT
section
variable {K : PySem.W.Frag} {H : Hp} {σ : L2.St}
theorem walk_enumT {a : Addr} {xs : List V} : Walk (IteT K a) xs.length (fun H => SqT K H a xs) (YPair (fun i => some (.int (i : Nat))) (fun i => xs[i]?)) := by
  refine ⟨fun i _ hi q => ⟨xs, xs[i], q, by simp [hi]⟩, fun _ q => ⟨xs, q, rfl⟩, fun i H v H' _ q y => ?_⟩
  obtain ⟨T, x, h1, h2, h3, h4⟩ := y
  exact ⟨T, .int (i : Nat), x, h1, h2, h3, rfl, h4 xs q⟩
/-- for i, x in enumerate(..): over a tuple or a list -/
theorem fe_tup {i j : Nat} {xs : List V} {J : It} {Gp : Hp → Prop} {tb : TS} {D : Ends} (w : Walk J xs.length Gp (YPair (fun i => some (.int (i : Nat))) (fun i => xs[i]?))) (Pv : Nat → L2.St → Hp → Prop) (h0 : Pv 0 σ H) (hG : ∀ k τ G, k ≤ xs.length → Pv k τ G → Gp G)
    (hs : ∀ (k : Nat) (x : V) τ G, xs[k]? = some x → Pv k τ G → ∀ G', Same G G' → (∀ l ys, G l = some (.lst ys) → G' l = some (.lst ys)) → tb { D with nx := Pv (k + 1), ct := Pv (k + 1), bk := D.nx } ((τ.set i (some (.int (k : Int)))).set j (some x)) G') (hd : ∀ τ G, Pv xs.length τ G → D.nx τ G) :
    ∃ W : Nat → Nat → L2.St → Hp → Prop, (∃ m, W 0 m σ H) ∧ ∀ i' m σ H, W i' m σ H →
      (J.stop i' H ∧ D.nx σ H) ∨ (J.go i' H ∧ ∃ N : L2.St → Hp → Prop, (∀ σ' H', N σ' H' → ∃ m', m' < m ∧ W (i' + 1) m' σ' H') ∧ ∀ x H', J.yld i' H x H' → gTup K 2 (gCons (gName i) (gCons (gName j) gNil)) x σ H' fun σ2 H2 => tb { D with nx := N, ct := N, bk := D.nx } σ2 H2) := by
  refine for_it w Pv h0 hG (fun k v τ G G' hk p y => ?_) hd
  obtain ⟨T, x, z, h1, h2, h3, h4, h5⟩ := y
  subst h1 h3
  cases h4
  exact ⟨T, _, rfl, tup_of upd_same, rfl, _, _, rfl, _, _, rfl, rfl, hs k z τ G h5 p _ (new_same h2) fun l ys hl => new_same h2 _ _ hl⟩
theorem for_enumT {i j : Nat} {a : Addr} {xs : List V} {te : TE} {tb : TS} {D : Ends} (he : EvS te σ H (IsV (.ref a))) (h : SqT K H a xs) (Pv : Nat → L2.St → Hp → Prop) (h0 : ∀ G, Same H G → Pv 0 σ G) (hG : ∀ k τ G, k ≤ xs.length → Pv k τ G → SqT K G a xs)
    (hs : ∀ (k : Nat) (x : V) τ G, xs[k]? = some x → Pv k τ G → ∀ G', Same G G' → tb { D with nx := Pv (k + 1), ct := Pv (k + 1), bk := D.nx } ((τ.set i (some (.int (k : Int)))).set j (some x)) G') (hd : ∀ τ G, Pv xs.length τ G → D.nx τ G) :
    tFor (iEnumA K (tCons te tNil)) (gTup K 2 (gCons (gName i) (gCons (gName j) gNil))) tb D σ H :=
  he H (Same.refl _) _ fun v H1 e1 ev => by
    subst ev
    exact ⟨a, xs, rfl, .inr ⟨same_tup e1 h, fe_tup walk_enumT Pv (h0 _ e1) hG (fun k x τ G hx p G' e _ => hs k x τ G hx p G' e) hd⟩⟩
end
end N0
namespace N0
open PySem PySem.Spec PyProof.Rows L2 HT
section
variable {X : Cx} {K : PySem.W.Frag}
theorem kpi_enumA {e : Expr} {ta : TA} {p pos tpos : Pos} {elts : List Expr} {kk : Nat} (hg : Gl X "enumerate") (hm : X.mg "enumerate" = none) (ha : PA X [e] ta) (h : X.K = K := by rfl) (hs : starEach [e] X.env = [(false, eval e X.env)] := by rfl) :
    PI X (.Tuple elts kk tpos) (.Call (.Name "enumerate" p) [e] [] pos) (iEnumA K ta) := h ▸ pi_enumA hg hm ha hs
theorem pe_disp1 {k v : Expr} {tk tv : TE} {pos : Pos} (hk : PE X k tk) (hv : PE X v tv) : PE X (.Dict [some k] [v] pos) (tDisp [(tk, tv)]) := pe_disp (pps_cons hk hv pps_nil) rfl rfl (by simp) (by simp)
def lcScopeE : Nat → Expr → Scope
  | _, .ListComp _ _ s _ => { s with names := s.names.map fun (n, k) => if k == .free then (n, .cell) else (n, k) }
  | n + 1, .Call _ (a :: _) _ _ => lcScopeE n a
  | _, _ => ⟨.function, [], false, false, []⟩
/-- the scope of the comprehension that is returned -/
def lcScopes : List Stmt → Scope
  | [.Return (some e) _] => lcScopeE 5 e
  | _ => ⟨.function, [], false, false, []⟩
theorem hu65 {A : Around} {k : Nat} (hr : Room k A) : A.units + 65 < cLine := by have := hr.un; omega
theorem kopIn (h : X.K = K := by rfl) : OpR X (compareOp .In) (rIn K false) := h ▸ op_in_seq
theorem kop_notInD {k : Nat} (hr : Room k X.A) (h : X.K = K := by rfl) : OpR X (compareOp .NotIn) (rNotInD K) := h ▸ op_notInD (hu65 hr)
end
end N0

/-! defs that let own exceptions out: their promises and calls -/
namespace PySem
namespace One
open PySem.W PySem.Calls PyProof.Rows PySem.HandSPX
theorem over_ArithmeticError : Over "ArithmeticError" "ArithmeticError.__new__" "ArithmeticError.__init__" [.type "ArithmeticError", .type "Exception", .type "BaseException", .type "object"] := ⟨PySem.F.excBase_ArithmeticError, PySem.F.store_ArithmeticError, by decide⟩
theorem over_ValueError : Over "ValueError" "ValueError.__new__" "ValueError.__init__" [.type "ValueError", .type "Exception", .type "BaseException", .type "object"] := ⟨PySem.F.excBase_ValueError, PySem.F.store_ValueError, by decide⟩
theorem fld_reason : Fld "reason" := ⟨fun _ _ _ _ _ _ _ _ _ _ _ _ _ _ => by with_unfolding_all rfl, fun _ _ _ _ => by with_unfolding_all rfl, fun _ _ _ _ => by with_unfolding_all rfl, fun _ _ _ _ _ _ => by with_unfolding_all rfl, fun _ _ _ _ _ _ => by with_unfolding_all rfl, by decide, fun _ _ => by with_unfolding_all rfl⟩
theorem fld_most : Fld "most" := ⟨fun _ _ _ _ _ _ _ _ _ _ _ _ _ _ => by with_unfolding_all rfl, fun _ _ _ _ => by with_unfolding_all rfl, fun _ _ _ _ => by with_unfolding_all rfl, fun _ _ _ _ _ _ => by with_unfolding_all rfl, fun _ _ _ _ _ _ => by with_unfolding_all rfl, by decide, fun _ _ => by with_unfolding_all rfl⟩
end One
end PySem
namespace N0
open PySem PySem.Spec PyProof.Rows L2 HT
/-- a def that may raise, by its promise -/
structure Clx (P : Program) (w : World) (K : PySem.W.Frag) (mg : Str → Option Value) (base : Heap) (k : Nat) (x : Str) (sp : Sp) : Prop where
  ex : ∃ f : Addr, FnR P w K mg base (L2.CX P w) k f sp ∧ mg x = some (.ref f) ∧ PySem.W.keepIn K (.ref f) = true
/-- a call that may raise: what is let out is told by E -/
abbrev tFx (E : XK) (sp : Sp) (t : TA) : TE := fun σ H Q => t σ H fun vs H1 => sp vs H1 Q E
section
variable {X : Cx} {x : Str} {k j : Nat} {sp : Sp} {e : Expr} {es : List Expr} {t : TA} {p pos : Pos}
theorem pe_fx {W : WX} {E : XK} (c : Clx X.prog X.w X.K X.mg X.base k x sp) (hr : Room j X.A) (hk : k ≤ j) (hg : Gl X x) (tk : Takes X W) (hW : ∀ cls d σ H, E cls d H → W cls d σ H) (ha : PA X (e :: es) t) (hdb : (x == ("__debug__" : Str)) = false := by decide)
    (he : starEach (e :: es) X.env = (false, eval e X.env) :: starEach es X.env := by rfl) (hpl : (backTo pos (starEach es X.env)).any (·.1) = false := by rfl) : PE X (.Call (.Name x p) (e :: es) [] pos) (tFx E sp t) := by
  obtain ⟨f, F, hm, kp⟩ := c.ex
  refine ⟨fun pins s σ H Q I h => ?_⟩
  refine wpAny_Call_Name_kw (ld_glob I hg hm ?_ hdb)
  refine PySem.W.callWith_K (h₀ := X.base) I.ok.mod.kin kp (thn (ha.run pos pins s σ H _ I h) fun us s1 ⟨vs, H1, I1, r, q⟩ => ⟨I1.kIn, ?_⟩) he hpl
  exact wpAny_call (run_fnR F (hr.mono hk) (passes_call tk hW) I1 r q)
/-- such a call where nothing is let out -/
theorem pe_fx0 (c : Clx X.prog X.w X.K X.mg X.base k x sp) (hr : Room j X.A) (hk : k ≤ j) (hg : Gl X x) (ha : PA X (e :: es) t) (hdb : (x == ("__debug__" : Str)) = false := by decide)
    (he : starEach (e :: es) X.env = (false, eval e X.env) :: starEach es X.env := by rfl) (hpl : (backTo pos (starEach es X.env)).any (·.1) = false := by rfl) : PE X (.Call (.Name x p) (e :: es) [] pos) (tFn sp t) :=
  pe_fx (W := fun _ _ _ _ => False) (E := E0) c hr hk hg LamX.takes0 (fun _ _ _ _ h => h) ha hdb he hpl
end
section
variable {P : Program} {w : World} {K : PySem.W.Frag} {mg : Str → Option Value} {base : Heap} {k : Nat} {x : Str} {sp sp' : Sp} {f : Addr} {fd : FuncData} {ps : List Str}
theorem clx_of (G : FnOk P w K mg base (L2.CX P w) k f fd ps sp) (hm : mg x = some (.ref f)) (kp : PySem.W.keepIn K (.ref f) = true) (hb : Binds K fd ps []) : Clx P w K mg base k x sp :=
  ⟨f, (G.raw hb .nil).imp fun vs H Q E h => by rw [List.append_nil]; exact h, hm, kp⟩
/-- as Fun.ok, for a def that may raise -/
theorem okX {x qual : Str} {st : Stmt} {f : Addr} {fd : FuncData} {N ps : List Str} {k : Nat} {sp : Sp} (F : Fun K x qual st f fd) (S : FnScope N ps (defScope st)) (len : ∀ vs H Q E, sp vs H Q E → vs.length = ps.length)
    (hbody : ∀ (cdv : Value) (A : Around) (outer : List Env) (s : Shared) (H : Hp) (vs : List V) (Q : VK) (E : XK), Room k (A.deeper (envOfC qual (defScope st) s.heap.objs.size f cdv)) → sp vs H Q E →
      ∃ t, PSs (cxOf (L2.CX P w) P w K mg base N qual (defScope st) f cdv A outer s H E) (defBody st) t ∧ t { nx := fun _ H' => Q .non H', rt := Q } (start N vs) H) : FnOk P w K mg base (L2.CX P w) (k + 1) f fd ps sp := by
  obtain ⟨oc, od, kV, doc, pm, an, cdv, ct, osl, rfl, lk, hcd⟩ := F.ex
  exact fn_of lk hcd S len fun A outer s H vs Q E hr hsp => hbody cdv A outer s H vs Q E hr hsp
end
end N0

/-! try: return a() / except x as n: return (ret, n.f) -/
namespace N0
open PySem PySem.Spec PyProof.Rows L2 HT LamX
/-- told: what a() gives, or the pair of ret and the field f of what it lets out -/
def TTold2 (CS : Addr) (f ret : Str) : (XK → Hp → VK → Prop) → Hp → VK → Prop := fun tl H Q =>
  tl (fun cls d H' => cls = .ref CS ∧ ∃ (dd : Addr) (fs : List (Str × V)) (v : V), d = some dd ∧ H' dd = some (.xd fs) ∧ fs.lookup f = some v ∧ ∀ p, H' p = none → Q (.ref p) (upd H' p (.tup [.str ret, v]))) H Q
section
variable {X : Cx}
/-- the slots are as many as the names -/
theorem pss_len {l : List Stmt} {t : TS} (h : PSs X l t) : PSs X l (fun D σ H => σ.length = X.N.length → t D σ H) :=
  ⟨fun pins s σ H D I hq => h.run pins s σ H D I (hq I.len)⟩
theorem told_gives2 {Ng : List Str} {x a n e q ret fl : Str} {sg : Scope} {g CS : Addr} {cdg : Value} {j : Nat} {x1 : _} {p1 p2 p3 p4 p5 p6 p7 p8 p9 p10 p11 : Pos} (hge : sg.names.lookup e = some .globalImplicit) (hme : X.mg e = some (.ref CS)) (hde : (e == ("__debug__" : Str)) = false)
    (hN : Ng = [a, n]) (nd : Ng.Nodup) (hln : sg.names.lookup n = some .local) (hk : ∀ (L c : Addr) (cd : Value), (envOfC x sg L c cd).kindOf n = some .local) (hdn : (n == ("__debug__" : Str)) = false) (hcn : (n == ("__classdict__" : Str)) = false)
    (hone : PySem.W.exmOne X.K (.ref CS) (.ref CS) = some true) (T : XfC X.K CS) (hno : PySem.W.findIn X.K (.ref CS) fl = some none)
    (hb : ∀ (p : Pos) (E : Env) (y : Sem Value), attributeBase (.Name n p) fl E y = y) :
    GivesTo X Ng x sg g cdg [.Try [.Return (some (.Call (.Name a p1) [] [] p2)) p3] [.ExceptHandler (some (.Name e p4)) (some n) [.Return (some (.Tuple [.Constant (.str ret) j p5, .Attribute (.Name n p9) fl p10] x1 p11)) p6] p7] [] [] p8] a q (TTold2 CS fl ret) := by
  subst hN
  intro f c' s H Q tl act hc h
  have hgl : Gl (cxOf C8.CX0 X.prog X.w X.K X.mg X.base [a, n] x sg g cdg X.A X.stack s H C8.E0).nox e := hge
  refine ⟨_, pss_one (ps_tries (X := (cxOf C8.CX0 X.prog X.w X.K X.mg X.base [a, n] x sg g cdg X.A X.stack s H C8.E0).nox) (out := fun _ _ _ _ => False)
      (l := [(.ref CS, some 1, fun b cls d D σ H => σ.length = 2 → tRet (tTup (tCons (tC (.str ret)) (tCons (tXf b cls d CS fl (tVar 1)) tNil))) D σ H)])
      (tb := fun W D σ H => ∃ Ech : XK, (∀ cls d σ' H', Ech cls d H' → W cls d σ' H') ∧ σ[0]? = some (some (.ref f)) ∧ H c' = some (CodeO c' q) ∧ tl Ech H D.rt)
      rfl rfl nd LamX.takes0 (fun W pn xe tk _ => ?_) (.named ⟨hgl, hde, .inl hme⟩ rfl (hk _ _ _) (fun b oe cls d pn hz hf => ?_) .nil)), ?_⟩
  · refine ⟨fun pins s' σ H' D I h' => ?_⟩
    obtain ⟨Ech, hW, h1, h2, h3⟩ := h'
    have hp := act W pn xe Ech p1 p2 tk hW
    have hq := pss_one (ps_ret (pos := p3) hp)
    exact hq.run pins s' σ H' D I ⟨h1, h2, h3⟩
  · exact pss_len (pss_one (ps_ret (pe_tup (pa_cons pe_str (pa_cons (pe_xf (X := (cxOf C8.CX0 X.prog X.w X.K X.mg X.base [a, n] x sg g cdg X.A X.stack s H C8.E0).nox) T hno hz hf (pe_var (X := (cxOf C8.CX0 X.prog X.w X.K X.mg X.base [a, n] x sg g cdg X.A X.stack s H C8.E0).nox.suite b ((b, oe) :: pn)) (i := 1) rfl (.inl hln) hdn hcn) (hb _ _ _)) pa_nil)))))
  · refine ⟨fun cls d H' => cls = .ref CS ∧ ∃ (dd : Addr) (fs : List (Str × V)) (v : V), d = some dd ∧ H' dd = some (.xd fs) ∧ fs.lookup fl = some v ∧ ∀ p, H' p = none → Q (.ref p) (upd H' p (.tup [.str ret, v])), fun cls d σ' H' z => ?_, rfl, hc, h⟩
    obtain ⟨ec, dd, fs, v, ed, ea, el, k⟩ := z
    subst ec
    refine ⟨true, hone, fun _ b nb => ?_, fun z => by cases z⟩
    intro hl
    refine ⟨.ref b, ?_, rfl, rfl, dd, fs, v, ed, ea, el, by show 2 ≤ sizeLine; decide, k⟩
    rw [List.length_set] at hl
    exact List.getElem?_set_self (by omega)
end
end N0
namespace N0
open PySem PySem.Spec PyProof.Rows L2 HT LamX
/-- of a def that makes lambdas: its code object and its table, which is among those of TL -/
structure LamT (base : Heap) (mg : Str → Option Value) (TL : List (Addr × Str)) (fd : FuncData) (q : Str) (c P : Addr) : Prop where
  tb : TabB base mg c P
  code : fd.code = .ref c
  mem : (P, q) ∈ TL
  one : ∀ p ∈ TL, p.1 = P → p.2 = q
section
variable {P : Program} {w : World} {K : PySem.W.Frag} {mg : Str → Option Value} {base : Heap}
/-- as Fun.ok, the code object known -/
theorem okL {CX : CXT} {x qual : Str} {st : Stmt} {f c : Addr} {fd : FuncData} {N ps : List Str} {k : Nat} {sp : Sp} (F : Fun K x qual st f fd) (hc : fd.code = .ref c) (S : FnScope N ps (defScope st)) (len : ∀ vs H Q E, sp vs H Q E → vs.length = ps.length)
    (hbody : ∀ (A : Around) (outer : List Env) (s : Shared) (H : Hp) (vs : List V) (Q : VK) (E : XK), Room k (A.deeper (envOfC qual (defScope st) s.heap.objs.size f (.ref c))) → sp vs H Q E →
      ∃ t, PSs (cxOf (CX) P w K mg base N qual (defScope st) f (.ref c) A outer s H E) (defBody st) t ∧ t { nx := fun _ H' => Q .non H', rt := Q } (start N vs) H) : FnOk P w K mg base (CX) (k + 1) f fd ps sp := by
  obtain ⟨oc, od, kV, doc, pm, an, cdv, ct, osl, rfl, lk, hcd⟩ := F.ex
  obtain rfl : cdv = .ref c := hc
  exact fn_of lk hcd S len fun A outer s H vs Q E hr hsp => hbody A outer s H vs Q E hr hsp
/-- as okL, for a body that lets nothing out -/
theorem okN {CX : CXT} {x qual : Str} {st : Stmt} {f c : Addr} {fd : FuncData} {N ps : List Str} {k : Nat} {sp : Sp} (F : Fun K x qual st f fd) (hc : fd.code = .ref c) (S : FnScope N ps (defScope st)) (len : ∀ vs H Q E, sp vs H Q E → vs.length = ps.length)
    (hbody : ∀ (A : Around) (outer : List Env) (s : Shared) (H : Hp) (vs : List V) (Q : VK) (E : XK), Room k (A.deeper (envOfC qual (defScope st) s.heap.objs.size f (.ref c))) → sp vs H Q E →
      ∃ t, PSs (cxOf CX P w K mg base N qual (defScope st) f (.ref c) A outer s H E).nox (defBody st) t ∧ t { nx := fun _ H' => Q .non H', rt := Q } (start N vs) H) : FnOk P w K mg base CX (k + 1) f fd ps sp :=
  okL F hc S len fun A outer s H vs Q E hr h => let ⟨t, ht, hq⟩ := hbody A outer s H vs Q E hr h; ⟨t, ht.nox, hq⟩
/-- `x(lambda: body)` where x is a def of the form of told_gives2 or the like: what pe_lamcall wants of x -/
structure Tells (K : PySem.W.Frag) (mg : Str → Option Value) (x a : Str) (Ng : List Str) (st : Stmt) : Prop where
  ex : ∃ (g : Addr) (fd : FuncData), Fun K x x st g fd ∧ mg x = some (.ref g) ∧ Binds K fd [a] []
  sc : FnScope Ng [a] (defScope st)
  n0 : Ng[0]? = some a
  va : Vis (defScope st) a
theorem pe_tells {X : Cx} {TL : List (Addr × Str)} {TT : (XK → Hp → VK → Prop) → Hp → VK → Prop} {x a : Str} {st : Stmt} {fd0 : FuncData} {c Pt : Addr} {k : Nat} {Ng : List Str} {params : Arguments} {body : Expr} {scope : Scope} {t : XK → TE} {p lpos pos : Pos}
    (G : Tells X.K X.mg x a Ng st) (hg : Gl X x)
    (hG : ∀ (g : Addr) (cdv : Value), GivesTo X Ng x (defScope st) g cdv (defBody st) a (X.env.qual ++ "<lambda>") TT)
    (LT : LamT X.base X.mg TL fd0 (X.env.qual ++ "<lambda>") c Pt) (hcode : X.env.code = .ref c) (hr : Room (k + 2) X.A) (L : LamS X.env.scope scope) (hdef : defaultsOf params X.env = ([], []))
    (hbind : ∀ (q : Str) (cl : List (Str × Addr)) (pm cv ctv : Value), bindArgs (PySem.W.kla_fn "<lambda>" q params body scope cl pm cv ctv) ⟨[], []⟩ = pure [])
    (hbody : ∀ (A : Around) (outer : List Env) (s : Shared) (H : Hp) (E : XK) (f c' : Addr), Room k (A.deeper (lamEnv X scope s.heap.objs.size f c')) → PE (lamCx X A outer s H E scope f c') body (t E))
    (hdb : (x == ("__debug__" : Str)) = false := by decide) (hd : (a == ("__debug__" : Str)) = false := by decide) (hcd : (a == ("__classdict__" : Str)) = false := by decide) :
    PE X (.Call (.Name x p) [.Lambda params body scope lpos] [] pos) (tLam TL TT t) := by
  obtain ⟨g, fd, F, hm, hb⟩ := G.ex
  have kp := F.kp
  obtain ⟨oc, od, kV, doc, pm, an, cdv, ct, osl, rfl, lk, hcg⟩ := F.ex
  exact pe_lamcall hg hm kp lk hcg hb G.sc G.n0 G.va (hG g cdv) LT.tb hcode LT.mem LT.one hr L hdef hbind hbody hdb hd hcd
end
end N0

/-! the end of a law whose defs make lambdas -/
namespace N0
open PySem PySem.Spec PyProof.Rows L2 HT LamX
/-- as walk_ofTs, the top of the program handed on -/
theorem walk_ofTop {l : PySem.W.OpenLaw} {n k : Nat} {q : Program} {loose : List Str} {XP : (Str → Option Value) → Heap → Prop} {YP : World → Heap → Prop} {d : DefRec} {K : Params → PySem.W.Frag} {CX : World → CXT} {x : Str}
    (hn : l.most = some n) (hn2 : n ≤ sizeLine) (hdf : d.params.defaults = []) (hr : Room k callerA) (hY : ∀ (w : World) (h : Heap), YP w h → (K w.params).In h)
    (F : ∀ (w : World) (mg : Str → Option Value) (fa : Addr) (h : Heap), (K w.params).In h → h.Ns mainGlobals mg → mg d.name = some (.ref fa) → (∃ lo mean mb, Top q lo mean mg mb h) → LawAtS l w (K w.params) (CX w) k n x mg fa h)
    (hCX : ∀ (w : World) (H : Hp) (s : Shared) (e : Value) (s' : Shared), CX w [] H s (fun _ _ _ => False) e s' → False) :
    PySem.W.WalkO q loose XP YP l.row.toRowW d [] (fun f vs => PySem.call f vs) := by
  refine Att.attach_callB hn hdf fun w s₀ s₁ mg mb fa o pm cd doc a vs ns G Y ho hd hcd hmg hobj hints hlen hbits hg => ?_
  have KX := hY w _ Y
  obtain ⟨fd, cs, sp, hT, nT, C, hb, hsp, hF⟩ := F w mg fa _ KX G.T.g hmg ⟨_, _, _, G.T⟩
  exact law_callTs KX G.T.g G.T.b G.T.builtins G.T.nolimit hg hT nT C G.T.bmain hobj hints (Nat.le_trans hlen hn2) hr hF hb (fun H hH hS => hsp H a ns hlen hbits hH hS) fun H e s' => hCX w H s₁ e s'
theorem tab_top {q : Program} {loose : List Str} {mean : ExcName → Option Value} {mg mb : Str → Option Value} {h : Heap} {K : PySem.W.Frag} {x : Str} {c P : Addr} (T : Top q loose mean mg mb h) (X : K.In h) (hrec : ((recsOf q).any fun e => e.name == x) = true) (ht : PySem.W.tabIn K x = some (c, P)) :
    PySem.W.CodeHd h c P ∧ h.get? P = some { cls := .none, data := .fields #[] } := by
  cases e : (recsOf q).find? (fun e => e.name == x) with
  | none =>
    rw [List.find?_eq_none] at e
    obtain ⟨r, h1, h2⟩ := List.any_eq_true.mp hrec
    exact absurd h2 (e r h1)
  | some d => exact PySem.W.tab_of T X e ht
/-- a def's code object, by its table -/
theorem code_top {mg : Str → Option Value} {h : Heap} {K : PySem.W.Frag} {x qual : Str} {st : Stmt} {c P f : Addr} {fd : FuncData} (X : K.In h) (G : h.Ns mainGlobals mg) (F : Fun K x qual st f fd) (hm : mg x = some (.ref f)) (ht : PySem.W.tabIn K x = some (c, P)) : fd.code = .ref c := by
  obtain ⟨oc, od, kV, doc, pm, an, cdv, ct, osl, rfl, lk, _⟩ := F.ex
  exact PySem.W.law_code X G ht hm (X _ _ lk) rfl
theorem lamT_two {base : Heap} {mg : Str → Option Value} {fd : FuncData} {q q' : Str} {c P P' : Addr} (t : TabB base mg c P) (e : fd.code = .ref c) (n : P ≠ P') : LamT base mg [(P, q), (P', q')] fd q c P :=
  ⟨t, e, List.mem_cons_self, fun p hp z => by
    rcases List.mem_cons.mp hp with rfl | hp
    · rfl
    · obtain rfl := List.mem_singleton.mp hp
      exact absurd z.symm n⟩
theorem lamT_two' {base : Heap} {mg : Str → Option Value} {fd : FuncData} {q q' : Str} {c P P' : Addr} (t : TabB base mg c P') (e : fd.code = .ref c) (n : P ≠ P') : LamT base mg [(P, q), (P', q')] fd q' c P' :=
  ⟨t, e, List.mem_cons_of_mem _ List.mem_cons_self, fun p hp z => by
    rcases List.mem_cons.mp hp with rfl | hp
    · exact absurd z n
    · obtain rfl := List.mem_singleton.mp hp
      rfl⟩
theorem tabs_two {H : Hp} {q q' : Str} {P P' : Addr} (h : H P = some (.tbl #[])) (h' : H P' = some (.tbl #[])) : Tabs [(P, q), (P', q')] H := fun p hp => by
  rcases List.mem_cons.mp hp with rfl | hp
  · exact TabS.nil h
  · obtain rfl := List.mem_singleton.mp hp
    exact TabS.nil h'
end N0

/-! tables of numbers as webs of places: roads, what is reached, the beat -/
namespace Tb
abbrev M := List (List Int)
def en (m : M) (i j : Nat) : Int := (m.getD i []).getD j 0
def E (m : M) (i j : Nat) : Prop := i < m.length ∧ j < m.length ∧ 0 < en m i j
/-- a road by its places behind the first one -/
def P (m : M) : Nat → List Nat → Nat → Prop
  | i, [], j => i = j
  | i, k :: l, j => E m i k ∧ P m k l j
theorem p_app {m : M} : ∀ {l l' : List Nat} {i j k : Nat}, P m i l j → P m j l' k → P m i (l ++ l') k
  | [], _, _, _, _, h, g => by
    have h : _ = _ := h
    subst h
    exact g
  | _ :: l, _, _, _, _, h, g => ⟨h.1, p_app (l := l) h.2 g⟩
theorem p_cut {m : M} : ∀ {l l' : List Nat} {i k : Nat}, P m i (l ++ l') k → ∃ j, P m i l j ∧ P m j l' k
  | [], _, i, _, h => ⟨i, rfl, h⟩
  | _ :: l, _, _, _, h => by
    obtain ⟨j, h1, h2⟩ := p_cut (l := l) h.2
    exact ⟨j, ⟨h.1, h1⟩, h2⟩
theorem p_one {m : M} {i j : Nat} (h : E m i j) : P m i [j] j := ⟨h, rfl⟩
theorem p_last {m : M} {l : List Nat} {i x j : Nat} (h : P m i (l ++ [x]) j) : x = j := by
  obtain ⟨k, _, h2⟩ := p_cut h
  exact h2.2
theorem p_lt {m : M} : ∀ {l : List Nat} {i j : Nat}, P m i l j → ∀ x ∈ l, x < m.length
  | k :: l, _, _, h, x, hx => by
    rcases List.mem_cons.mp hx with rfl | hx
    · exact h.1.2.1
    · exact p_lt (l := l) h.2 x hx
theorem p_end {m : M} {l : List Nat} {i j : Nat} (h : P m i l j) (hl : l ≠ []) : j < m.length := by
  have e := (List.dropLast_concat_getLast hl).symm
  rw [e] at h
  have := p_last h
  rw [← this]
  exact p_lt h _ (by simp)
theorem p_start {m : M} {l : List Nat} {i j : Nat} (h : P m i l j) (hl : l ≠ []) : i < m.length := by
  cases l with
  | nil => exact absurd rfl hl
  | cons k l => exact h.1.1
/-- j is reached from i by one step or more -/
def R (m : M) (i j : Nat) : Prop := ∃ l, l ≠ [] ∧ P m i l j
theorem R.trans {m : M} {i j k : Nat} (h : R m i j) (g : R m j k) : R m i k := by
  obtain ⟨l, hl, h⟩ := h
  obtain ⟨l', _, g⟩ := g
  exact ⟨l ++ l', by simp [hl], p_app h g⟩
theorem R.of {m : M} {i j : Nat} (h : E m i j) : R m i j := ⟨[j], by simp, p_one h⟩
theorem R.lt {m : M} {i j : Nat} (h : R m i j) : i < m.length ∧ j < m.length := by
  obtain ⟨l, hl, h⟩ := h
  exact ⟨p_start h hl, p_end h hl⟩
/-- the table hangs together -/
def Hg (m : M) : Prop := ∀ i j, i < m.length → j < m.length → R m i j
/-! short roads -/
theorem nodup_le : ∀ {l t : List Nat}, l.Nodup → (∀ x ∈ l, x ∈ t) → l.length ≤ t.length
  | [], _, _, _ => Nat.zero_le _
  | x :: l, t, h, g => by
    have hx := g x List.mem_cons_self
    have ih := nodup_le (l := l) (t := t.erase x) (List.nodup_cons.mp h).2 fun y hy => (List.mem_erase_of_ne (show y ≠ x from fun e => (List.nodup_cons.mp h).1 (by rw [← e]; exact hy))).mpr (g y (List.mem_cons_of_mem _ hy))
    rw [List.length_erase_of_mem hx] at ih
    have := List.length_pos_of_mem hx
    simp only [List.length_cons]
    omega
theorem nodup_lt {l : List Nat} {n : Nat} (h : l.Nodup) (g : ∀ x ∈ l, x < n) : l.length ≤ n := by
  have := nodup_le (t := List.range n) h fun x hx => List.mem_range.mpr (g x hx)
  rwa [List.length_range] at this
theorem twice : ∀ {l : List Nat}, ¬ l.Nodup → ∃ a x b c, l = a ++ x :: (b ++ x :: c)
  | [], h => absurd List.nodup_nil h
  | y :: l, h => by
    by_cases hy : y ∈ l
    · obtain ⟨b, c, e⟩ := List.append_of_mem hy
      exact ⟨[], y, b, c, by rw [e]; rfl⟩
    · obtain ⟨a, x, b, c, e⟩ := twice (l := l) fun hn => h (List.nodup_cons.mpr ⟨hy, hn⟩)
      exact ⟨y :: a, x, b, c, by rw [e]; rfl⟩
theorem short_ {m : M} : ∀ (n : Nat) {l : List Nat} {i j : Nat}, l.length ≤ n → l ≠ [] → P m i l j → ∃ l', l' ≠ [] ∧ l'.Nodup ∧ P m i l' j
  | 0, l, _, _, hn, hl, _ => absurd (List.eq_nil_of_length_eq_zero (by omega)) hl
  | n + 1, l, i, j, hn, hl, h => by
    by_cases hd : l.Nodup
    · exact ⟨l, hl, hd, h⟩
    · obtain ⟨a, x, b, c, e⟩ := twice hd
      subst e
      have e1 : a ++ x :: (b ++ x :: c) = (a ++ [x]) ++ ((b ++ [x]) ++ c) := by simp
      rw [e1] at h
      obtain ⟨k, h1, h2⟩ := p_cut h
      obtain ⟨k', h3, h4⟩ := p_cut h2
      have q1 := p_last h1
      have q2 := p_last h3
      subst q1 q2
      refine short_ n (l := (a ++ [x]) ++ c) ?_ (by simp) (p_app h1 h4)
      simp only [List.length_append, List.length_cons, List.length_nil] at hn ⊢
      omega
theorem short {m : M} {i j : Nat} (h : R m i j) : ∃ l, l ≠ [] ∧ P m i l j ∧ l.length ≤ m.length := by
  obtain ⟨l, hl, h⟩ := h
  obtain ⟨l', h1, h2, h3⟩ := short_ l.length (Nat.le_refl _) hl h
  exact ⟨l', h1, h3, nodup_lt h2 (p_lt h3)⟩
/-! the beat -/
/-- g is the greatest common divisor of the lengths of all rounds at u -/
def Bt (m : M) (u : Nat) (g : Int) : Prop := 0 ≤ g ∧ ∀ h : Int, h ∣ g ↔ ∀ l, P m u l u → h ∣ (l.length : Int)
theorem Bt.uniq {m : M} {u : Nat} {f g : Int} (a : Bt m u f) (b : Bt m u g) : f = g := Int.dvd_antisymm a.1 b.1 ((b.2 f).mpr ((a.2 f).mp (Int.dvd_refl f))) ((a.2 g).mpr ((b.2 g).mp (Int.dvd_refl g)))
theorem Bt.move {m : M} (hg : Hg m) {u v : Nat} (hu : u < m.length) (hv : v < m.length) {g : Int} (b : Bt m u g) : Bt m v g := by
  have key : ∀ {u v : Nat}, u < m.length → v < m.length → ∀ h : Int, (∀ l, P m u l u → h ∣ (l.length : Int)) → ∀ l, P m v l v → h ∣ (l.length : Int) := fun {u v} hu hv h H l hl => by
    obtain ⟨a, _, ha⟩ := hg u v hu hv
    obtain ⟨b, _, hb⟩ := hg v u hv hu
    have h1 := H _ (p_app ha hb)
    have h2 := H _ (p_app ha (p_app hl hb))
    simp only [List.length_append, Int.natCast_add] at h1 h2
    have h3 := Int.dvd_sub h2 h1
    have e : (a.length : Int) + ((l.length : Int) + (b.length : Int)) - ((a.length : Int) + (b.length : Int)) = (l.length : Int) := by omega
    rwa [e] at h3
  exact ⟨b.1, fun h => (b.2 h).trans ⟨key hu hv h, key hv hu h⟩⟩
/-- by steps from the place 0 -/
theorem bt_steps {m : M} (hg : Hg m) (h0 : 0 < m.length) {d : Nat → Int} (d0 : d 0 = 0) (hd : ∀ i, i < m.length → ∃ l, P m 0 l i ∧ (l.length : Int) = d i) {g : Int} (g0 : 0 ≤ g) (hh : ∀ h : Int, h ∣ g ↔ ∀ i j, E m i j → h ∣ d i + 1 - d j) : Bt m 0 g := by
  refine ⟨g0, fun h => (hh h).trans ⟨fun H l hl => ?_, fun H i j e => ?_⟩⟩
  · have key : ∀ (l : List Nat) (i j : Nat), P m i l j → h ∣ d i + (l.length : Int) - d j := fun l => by
      induction l with
      | nil =>
        intro i j hp
        have hp : i = j := hp
        subst hp
        have e : d i + (([] : List Nat).length : Int) - d i = 0 := by simp
        rw [e]
        exact Int.dvd_zero h
      | cons k l ih =>
        intro i j hp
        have h1 := H i k hp.1
        have h2 := ih k j hp.2
        have e : d i + (((k :: l).length : Nat) : Int) - d j = (d i + 1 - d k) + (d k + (l.length : Int) - d j) := by simp only [List.length_cons, Int.natCast_add]; omega
        rw [e]
        exact Int.dvd_add h1 h2
    have := key l 0 0 hl
    rw [d0] at this
    have e : (0 : Int) + (l.length : Int) - 0 = (l.length : Int) := by omega
    rwa [e] at this
  · obtain ⟨a, ha, la⟩ := hd i e.1
    obtain ⟨b, hb, lb⟩ := hd j e.2.1
    obtain ⟨r, _, hr⟩ := hg j 0 e.2.1 h0
    have h1 := H _ (p_app ha (p_app (p_one e) hr))
    have h2 := H _ (p_app hb hr)
    simp only [List.length_append, List.length_cons, List.length_nil, Int.natCast_add] at h1 h2
    have h3 := Int.dvd_sub h1 h2
    have e1 : (a.length : Int) + (((0 + 1 : Nat) : Int) + (r.length : Int)) - ((b.length : Int) + (r.length : Int)) = d i + 1 - d j := by omega
    rw [← e1]
    simpa using h3
/-- by the lengths of short rounds -/
theorem bt_short {m : M} (hg : Hg m) (h0 : 0 < m.length) {g : Int} (g0 : 0 ≤ g) {B : Nat} (hB : 2 * m.length + 1 ≤ B) (hh : ∀ h : Int, h ∣ g ↔ ∀ l, l ≠ [] → l.length ≤ B → P m 0 l 0 → h ∣ (l.length : Int)) : Bt m 0 g := by
  refine ⟨g0, fun h => (hh h).trans ⟨fun H l hl => ?_, fun H l _ _ hl => H l hl⟩⟩
  have H' : ∀ l, l.length ≤ B → P m 0 l 0 → h ∣ (l.length : Int) := fun l hb hp => by
    by_cases hl : l = []
    · subst hl
      exact Int.dvd_zero h
    · exact H l hl hb hp
  have key : ∀ (l : List Nat) (i j : Nat), P m i l j → j < m.length → ∀ a b, P m 0 a i → a.length ≤ m.length → P m 0 b j → b.length ≤ m.length → h ∣ (a.length : Int) + (l.length : Int) - (b.length : Int) := fun l => by
    induction l with
    | nil =>
      intro i j hp hj a b ha la hb lb
      have hp : i = j := hp
      subst hp
      obtain ⟨r, _, hr, lr⟩ := short (hg i 0 hj h0)
      have h1 := H' _ (by rw [List.length_append]; omega) (p_app ha hr)
      have h2 := H' _ (by rw [List.length_append]; omega) (p_app hb hr)
      simp only [List.length_append, Int.natCast_add] at h1 h2
      have h3 := Int.dvd_sub h1 h2
      have e : (a.length : Int) + (r.length : Int) - ((b.length : Int) + (r.length : Int)) = (a.length : Int) + (([] : List Nat).length : Int) - (b.length : Int) := by simp only [List.length_nil]; omega
      rwa [e] at h3
    | cons k l ih =>
      intro i j hp hj a b ha la hb lb
      have hk := hp.1.2.1
      obtain ⟨c, _, hc, lc⟩ := short (hg 0 k h0 hk)
      obtain ⟨r, _, hr, lr⟩ := short (hg k 0 hk h0)
      have h1 := H' _ (by simp only [List.length_append, List.length_cons, List.length_nil]; omega) (p_app ha (p_app (p_one hp.1) hr))
      have h2 := H' _ (by rw [List.length_append]; omega) (p_app hc hr)
      have h3 := ih k j hp.2 hj c b hc lc hb lb
      simp only [List.length_append, List.length_cons, List.length_nil, Int.natCast_add] at h1 h2
      have h4 := Int.dvd_add (Int.dvd_sub h1 h2) h3
      have e : (a.length : Int) + (((0 + 1 : Nat) : Int) + (r.length : Int)) - ((c.length : Int) + (r.length : Int)) + ((c.length : Int) + (l.length : Int) - (b.length : Int)) = (a.length : Int) + (((k :: l).length : Nat) : Int) - (b.length : Int) := by simp only [List.length_cons, Int.natCast_add]; omega
      rw [← e]
      simpa using h4
  have := key l 0 0 hl h0 [] [] rfl (Nat.zero_le _) rfl (Nat.zero_le _)
  simpa using this
end Tb

/-! tables begun in another sequence, with a told beat, with a round through all places, beside one another; pieces -/
namespace Tb
/-! the table in another sequence -/
structure Mv (m m' : M) (o : Nat → Nat) : Prop where
  len : m'.length = m.length
  lt : ∀ i, i < m.length → o i < m.length
  inj : ∀ i j, i < m.length → j < m.length → o i = o j → i = j
  sur : ∀ x, x < m.length → ∃ i, i < m.length ∧ o i = x
  en : ∀ i j, i < m.length → j < m.length → en m' i j = en m (o i) (o j)
theorem Mv.e {m m' : M} {o : Nat → Nat} (v : Mv m m' o) {i j : Nat} (hi : i < m.length) (hj : j < m.length) : E m' i j ↔ E m (o i) (o j) := by
  unfold E
  rw [v.len, v.en i j hi hj]
  exact ⟨fun h => ⟨v.lt i hi, v.lt j hj, h.2.2⟩, fun h => ⟨hi, hj, h.2.2⟩⟩
theorem Mv.p {m m' : M} {o : Nat → Nat} (v : Mv m m' o) : ∀ {l : List Nat} {i j : Nat}, i < m.length → P m' i l j → P m (o i) (l.map o) (o j)
  | [], _, _, _, h => congrArg o h
  | k :: l, i, j, hi, h => by
    have hk : k < m.length := by have := h.1.2.1; rwa [v.len] at this
    exact ⟨(v.e hi hk).mp h.1, v.p (l := l) hk h.2⟩
theorem Mv.back {m m' : M} {o : Nat → Nat} (v : Mv m m' o) : ∀ {l : List Nat} {i j : Nat}, i < m.length → j < m.length → P m (o i) l (o j) → ∃ l', P m' i l' j ∧ l'.length = l.length
  | [], i, j, hi, hj, h => ⟨[], v.inj i j hi hj h, rfl⟩
  | x :: l, i, j, hi, hj, h => by
    obtain ⟨k, hk, e⟩ := v.sur x h.1.2.1
    subst e
    obtain ⟨l', h1, h2⟩ := v.back (l := l) hk hj h.2
    exact ⟨k :: l', ⟨(v.e hi hk).mpr h.1, h1⟩, by rw [List.length_cons, List.length_cons, h2]⟩
theorem Mv.hg {m m' : M} {o : Nat → Nat} (v : Mv m m' o) (h : Hg m) : Hg m' := fun i j hi hj => by
  rw [v.len] at hi hj
  obtain ⟨l, hl, hp⟩ := h (o i) (o j) (v.lt i hi) (v.lt j hj)
  obtain ⟨l', h1, h2⟩ := v.back hi hj hp
  exact ⟨l', fun z => hl (List.eq_nil_of_length_eq_zero (by rw [← h2, z]; rfl)), h1⟩
theorem Mv.bt {m m' : M} {o : Nat → Nat} (v : Mv m m' o) (h : Hg m) {u : Nat} (hu : u < m.length) {g : Int} (b : Bt m u g) : Bt m' u g := by
  have b2 := b.move h hu (v.lt u hu)
  refine ⟨b2.1, fun q => (b2.2 q).trans ⟨fun H l hl => ?_, fun H l hl => ?_⟩⟩
  · have := H _ (v.p hu hl)
    rwa [List.length_map] at this
  · obtain ⟨l', h1, h2⟩ := v.back hu hu hl
    rw [← h2]
    exact H l' h1
/-! a round through all places -/
theorem hg_round {m : M} {o : Nat → Nat} (hn : 0 < m.length) (sur : ∀ x, x < m.length → ∃ i, i < m.length ∧ o i = x) (st : ∀ k, k < m.length → E m (o k) (o ((k + 1) % m.length))) : Hg m := fun i j hi hj => by
  obtain ⟨a, ha, rfl⟩ := sur i hi
  obtain ⟨b, hb, rfl⟩ := sur j hj
  have key : ∀ k, R m (o a) (o ((a + k + 1) % m.length)) := fun k => by
    induction k with
    | zero => exact R.of (st a ha)
    | succ k ih =>
      have h1 := st ((a + k + 1) % m.length) (Nat.mod_lt _ hn)
      have e : ((a + k + 1) % m.length + 1) % m.length = (a + (k + 1) + 1) % m.length := by
        rw [Nat.add_mod, Nat.mod_mod, ← Nat.add_mod]
        congr 1
      rw [e] at h1
      exact ih.trans (R.of h1)
  have := key (m.length + b - 1 - a)
  have e : (a + (m.length + b - 1 - a) + 1) % m.length = b := by
    have : a + (m.length + b - 1 - a) + 1 = b + m.length := by omega
    rw [this, Nat.add_mod_right, Nat.mod_eq_of_lt hb]
  rwa [e] at this
/-! a told beat -/
structure Btg (m : M) (k : Nat) (lot : Nat → Nat) : Prop where
  k0 : 0 < k
  lt : ∀ i, i < m.length → lot i < k
  all : ∀ x, x < k → ∃ i, i < m.length ∧ lot i = x
  e : ∀ i j, i < m.length → j < m.length → (E m i j ↔ lot j = (lot i + 1) % k)
theorem Btg.len {m : M} {k : Nat} {lot : Nat → Nat} (b : Btg m k lot) : ∀ {l : List Nat} {i j : Nat}, i < m.length → P m i l j → lot j = (lot i + l.length) % k
  | [], i, j, hi, h => by
    have h : i = j := h
    subst h
    exact (Nat.mod_eq_of_lt (b.lt i hi)).symm
  | x :: l, i, j, hi, h => by
    have hx := h.1.2.1
    have ih := b.len (l := l) hx h.2
    rw [(b.e i x hi hx).mp h.1] at ih
    rw [ih, List.length_cons, Nat.add_mod, Nat.mod_mod, ← Nat.add_mod]
    congr 1
    omega
theorem Btg.go {m : M} {k : Nat} {lot : Nat → Nat} (b : Btg m k lot) : ∀ (n : Nat) {i j : Nat}, i < m.length → j < m.length → lot j = (lot i + (n + 1)) % k → ∃ l, l.length = n + 1 ∧ P m i l j
  | 0, i, j, hi, hj, h => ⟨[j], rfl, p_one ((b.e i j hi hj).mpr h)⟩
  | n + 1, i, j, hi, hj, h => by
    obtain ⟨x, hx, ex⟩ := b.all ((lot i + 1) % k) (Nat.mod_lt _ b.k0)
    obtain ⟨l, h1, h2⟩ := b.go n hx hj (by
      rw [h, ex, Nat.add_mod ((lot i + 1) % k), Nat.mod_mod, ← Nat.add_mod]
      congr 1
      omega)
    exact ⟨x :: l, by rw [List.length_cons, h1], (b.e i x hi hx).mpr ex, h2⟩
theorem Btg.hg {m : M} {k : Nat} {lot : Nat → Nat} (b : Btg m k lot) : Hg m := fun i j hi hj => by
  have h1 := b.lt i hi
  have h2 := b.lt j hj
  obtain ⟨l, h3, h4⟩ := b.go (k + lot j - lot i - 1 + k) hi hj (by
    have : lot i + (k + lot j - lot i - 1 + k + 1) = lot j + k + k := by omega
    rw [this, Nat.add_mod_right, Nat.add_mod_right, Nat.mod_eq_of_lt h2])
  exact ⟨l, fun z => (by rw [z] at h3; simp at h3), h4⟩
theorem Btg.bt {m : M} {k : Nat} {lot : Nat → Nat} (b : Btg m k lot) {u : Nat} (hu : u < m.length) : Bt m u (k : Int) := by
  refine ⟨by omega, fun h => ⟨fun H l hl => ?_, fun H => ?_⟩⟩
  · have e := b.len hu hl
    have hl0 := b.lt u hu
    have : k ∣ l.length := by
      have e2 : (lot u + l.length) % k = (lot u + 0) % k := by rw [← e, Nat.add_zero, Nat.mod_eq_of_lt hl0]
      have e3 : l.length % k = 0 := by
        have h1 := Nat.div_add_mod (lot u + l.length) k
        have h2 : (lot u + l.length) % k = lot u := e.symm
        rw [h2] at h1
        have h3 : l.length = k * ((lot u + l.length) / k) := by omega
        rw [h3]
        exact Nat.mul_mod_right _ _
      exact Nat.dvd_of_mod_eq_zero e3
    exact Int.dvd_trans H (Int.ofNat_dvd.mpr this)
  · have hl0 := b.lt u hu
    obtain ⟨l, h1, h2⟩ := b.go (k - 1) hu hu (by
      have : lot u + (k - 1 + 1) = lot u + k := by have := b.k0; omega
      rw [this, Nat.add_mod_right, Nat.mod_eq_of_lt hl0])
    have := H l h2
    have e : l.length = k := by have := b.k0; omega
    rwa [e] at this
/-! tables beside one another -/
theorem not_hg {m : M} {s : Nat} (h0 : 0 < s) (h1 : s < m.length) (z : ∀ i j, s ≤ i → j < s → en m i j ≤ 0) : ¬ Hg m := fun h => by
  have key : ∀ (l : List Nat) (i j : Nat), P m i l j → s ≤ i → s ≤ j := fun l => by
    induction l with
    | nil => intro i j hp hi; exact (show i = j from hp) ▸ hi
    | cons k l ih =>
      intro i j hp hi
      refine ih k j hp.2 ?_
      by_cases hk : s ≤ k
      · exact hk
      · have := z i k hi (by omega)
        have := hp.1.2.2
        omega
  obtain ⟨l, _, hp⟩ := h s 0 h1 (by omega)
  have := key l s 0 hp (Nat.le_refl _)
  omega
/-! pieces -/
/-- the piece of i: r tells what is reached -/
def cls (r : Nat → Nat → Bool) (n i : Nat) : List Nat := (List.range n).filter fun j => decide (j = i) || (r i j && r j i)
theorem mem_cls {r : Nat → Nat → Bool} {n i j : Nat} : j ∈ cls r n i ↔ j < n ∧ (j = i ∨ (r i j = true ∧ r j i = true)) := by
  unfold cls
  rw [List.mem_filter, List.mem_range]
  simp
theorem cls_eq {r : Nat → Nat → Bool} (tr : ∀ i j k, r i j = true → r j k = true → r i k = true) {n i j : Nat} (h : j ∈ cls r n i) : cls r n j = cls r n i := by
  obtain ⟨_, h⟩ := mem_cls.mp h
  rcases h with rfl | ⟨h1, h2⟩
  · rfl
  · unfold cls
    refine List.filter_congr fun k _ => ?_
    rw [Bool.eq_iff_iff]
    simp only [Bool.or_eq_true, Bool.and_eq_true, decide_eq_true_eq]
    constructor
    · rintro (rfl | ⟨a, b⟩)
      · exact .inr ⟨h1, h2⟩
      · exact .inr ⟨tr _ _ _ h1 a, tr _ _ _ b h2⟩
    · rintro (rfl | ⟨a, b⟩)
      · exact .inr ⟨h2, h1⟩
      · exact .inr ⟨tr _ _ _ h2 a, tr _ _ _ b h1⟩
theorem head_le : ∀ {l : List Nat} {h x : Nat}, l.Pairwise (· < ·) → l.head? = some h → x ∈ l → h ≤ x
  | y :: l, h, x, hp, hh, hx => by
    cases hh
    rcases List.mem_cons.mp hx with rfl | hx
    · exact Nat.le_refl _
    · exact Nat.le_of_lt ((List.pairwise_cons.mp hp).1 x hx)
theorem cls_asc {r : Nat → Nat → Bool} {n i : Nat} : (cls r n i).Pairwise (· < ·) := List.Pairwise.filter _ List.pairwise_lt_range
/-- those that begin a piece -/
def firsts (r : Nat → Nat → Bool) (n a : Nat) : List Nat := (List.range a).filter fun i => decide ((cls r n i).head? = some i)
theorem part_new {r : Nat → Nat → Bool} (tr : ∀ i j k, r i j = true → r j k = true → r i k = true) {n a : Nat} (ha : a < n) : cls r n a ∈ (firsts r n a).map (cls r n) ↔ ¬ (cls r n a).head? = some a := by
  have ma : a ∈ cls r n a := mem_cls.mpr ⟨ha, .inl rfl⟩
  constructor
  · intro h q
    obtain ⟨k, hk, e⟩ := List.mem_map.mp h
    unfold firsts at hk
    rw [List.mem_filter, List.mem_range] at hk
    have mk : k ∈ cls r n k := mem_cls.mpr ⟨by omega, .inl rfl⟩
    rw [e] at mk
    have := head_le cls_asc q mk
    omega
  · intro h
    obtain ⟨x, hx⟩ : ∃ x, (cls r n a).head? = some x := by
      cases q : cls r n a with
      | nil => rw [q] at ma; cases ma
      | cons x l => exact ⟨x, rfl⟩
    have mx : x ∈ cls r n a := by
      cases q : cls r n a with
      | nil => rw [q] at hx; cases hx
      | cons y l => rw [q] at hx; cases hx; exact List.mem_cons_self
    have le := head_le cls_asc hx ma
    have ne : x ≠ a := fun z => h (by rw [hx, z])
    refine List.mem_map.mpr ⟨x, ?_, cls_eq tr mx⟩
    unfold firsts
    rw [List.mem_filter, List.mem_range]
    exact ⟨by omega, decide_eq_true (by rw [cls_eq tr mx]; exact hx)⟩
theorem firsts_succ {r : Nat → Nat → Bool} {n a : Nat} : firsts r n (a + 1) = firsts r n a ++ if (cls r n a).head? = some a then [a] else [] := by
  unfold firsts
  rw [List.range_succ, List.filter_append]
  congr 1
  by_cases h : (cls r n a).head? = some a
  · rw [if_pos h]
    simp [h]
  · rw [if_neg h]
    simp [h]
end Tb

namespace Pr
open PySem L2 N0
/-! ### the text by places -/
def topS (i : Nat) : Stmt := PySem.Challenge.pw_noroadback_k35_whole_pieces_and_beats_of.main.body.getD i (.Pass ⟨0, 0, 0, 0⟩)
abbrev st_is_integer : Stmt := topS 3
abbrev nm_is_integer : List Str := ["value"]
theorem sc_is_integer : FnScope nm_is_integer ["value"] (defScope st_is_integer) := ⟨rfl, rfl, rfl, by decide +kernel, rfl, by decide +kernel, by decide +kernel⟩
abbrev st_is_within : Stmt := topS 4
abbrev nm_is_within : List Str := ["value", "least", "most"]
theorem sc_is_within : FnScope nm_is_within ["value", "least", "most"] (defScope st_is_within) := ⟨rfl, rfl, rfl, by decide +kernel, rfl, by decide +kernel, by decide +kernel⟩
abbrev st_is_passed : Stmt := topS 5
abbrev nm_is_passed : List Str := ["value"]
theorem sc_is_passed : FnScope nm_is_passed ["value"] (defScope st_is_passed) := ⟨rfl, rfl, rfl, by decide +kernel, rfl, by decide +kernel, by decide +kernel⟩
abbrev st_is_count_table : Stmt := topS 12
abbrev nm_is_count_table : List Str := ["value", "row", "entry"]
theorem sc_is_count_table : FnScope nm_is_count_table ["value"] (defScope st_is_count_table) := ⟨rfl, rfl, rfl, by decide +kernel, rfl, by decide +kernel, by decide +kernel⟩
abbrev st_check_count_table : Stmt := topS 13
abbrev nm_check_count_table : List Str := ["table"]
theorem sc_check_count_table : FnScope nm_check_count_table ["table"] (defScope st_check_count_table) := ⟨rfl, rfl, rfl, by decide +kernel, rfl, by decide +kernel, by decide +kernel⟩
abbrev st_check_together : Stmt := topS 14
abbrev nm_check_together : List Str := ["table"]
theorem sc_check_together : FnScope nm_check_together ["table"] (defScope st_check_together) := ⟨rfl, rfl, rfl, by decide +kernel, rfl, by decide +kernel, by decide +kernel⟩
abbrev st_reached_from : Stmt := topS 15
abbrev nm_reached_from : List Str := ["table", "place", "reached", "waiting", "row", "goal", "entry"]
theorem sc_reached_from : FnScope nm_reached_from ["table", "place"] (defScope st_reached_from) := ⟨rfl, rfl, rfl, by decide +kernel, rfl, by decide +kernel, by decide +kernel⟩
abbrev st_does_hang : Stmt := topS 16
abbrev nm_does_hang : List Str := ["table", "place"]
theorem sc_does_hang : FnScope nm_does_hang ["table"] (defScope st_does_hang) := ⟨rfl, rfl, rfl, by decide +kernel, rfl, by decide +kernel, by decide +kernel⟩
abbrev st_hangs_together : Stmt := topS 17
abbrev nm_hangs_together : List Str := ["table"]
theorem sc_hangs_together : FnScope nm_hangs_together ["table"] (defScope st_hangs_together) := ⟨rfl, rfl, rfl, by decide +kernel, rfl, by decide +kernel, by decide +kernel⟩
abbrev st_pieces_of : Stmt := topS 18
abbrev nm_pieces_of : List Str := ["table", "place", "reached", "pieces", "both", "piece", "goal"]
theorem sc_pieces_of : FnScope nm_pieces_of ["table"] (defScope st_pieces_of) := ⟨rfl, rfl, rfl, by decide +kernel, rfl, by decide +kernel, by decide +kernel⟩
abbrev st_steps_from : Stmt := topS 19
abbrev nm_steps_from : List Str := ["table", "steps", "waiting", "done", "place", "goal", "entry"]
theorem sc_steps_from : FnScope nm_steps_from ["table"] (defScope st_steps_from) := ⟨rfl, rfl, rfl, by decide +kernel, rfl, by decide +kernel, by decide +kernel⟩
abbrev st_beat : Stmt := topS 20
abbrev nm_beat : List Str := ["table", "steps", "found", "place", "row", "goal", "entry"]
theorem sc_beat : FnScope nm_beat ["table"] (defScope st_beat) := ⟨rfl, rfl, rfl, by decide +kernel, rfl, by decide +kernel, by decide +kernel⟩
abbrev st__law_basin : Stmt := topS 22
abbrev nm__law_basin : List Str := ["script", "spot", "cell", "great", "mixed"]
theorem sc__law_basin : FnScope nm__law_basin ["script", "spot"] (defScope st__law_basin) := ⟨rfl, rfl, rfl, by decide +kernel, rfl, by decide +kernel, by decide +kernel⟩
abbrev st__law_scoop : Stmt := topS 23
abbrev nm__law_scoop : List Str := ["basin", "many", "found", "one", "two"]
theorem sc__law_scoop : FnScope nm__law_scoop ["basin", "many"] (defScope st__law_scoop) := ⟨rfl, rfl, rfl, by decide +kernel, rfl, by decide +kernel, by decide +kernel⟩
abbrev st__law_taken : Stmt := topS 24
abbrev nm__law_taken : List Str := ["basin", "items"]
theorem sc__law_taken : FnScope nm__law_taken ["basin", "items"] (defScope st__law_taken) := ⟨rfl, rfl, rfl, by decide +kernel, rfl, by decide +kernel, by decide +kernel⟩
abbrev st__law_reached : Stmt := topS 25
abbrev nm__law_reached : List Str := ["table", "size", "found", "start", "met", "waits", "here", "to"]
theorem sc__law_reached : FnScope nm__law_reached ["table"] (defScope st__law_reached) := ⟨rfl, rfl, rfl, by decide +kernel, rfl, by decide +kernel, by decide +kernel⟩
abbrev st__law_parts : Stmt := topS 26
abbrev nm__law_parts : List Str := ["table", "reach", "found", "at", "here", "to"]
theorem sc__law_parts : FnScope nm__law_parts ["table"] (defScope st__law_parts) := ⟨rfl, rfl, rfl, by decide +kernel, rfl, by decide +kernel, by decide +kernel⟩
abbrev st__law_hangs : Stmt := topS 27
abbrev nm__law_hangs : List Str := ["table", "here"]
theorem sc__law_hangs : FnScope nm__law_hangs ["table"] (defScope st__law_hangs) := ⟨rfl, rfl, rfl, by decide +kernel, rfl, by decide +kernel, by decide +kernel⟩
abbrev st__law_cut : Stmt := topS 28
abbrev nm__law_cut : List Str := ["table", "places", "at", "to"]
theorem sc__law_cut : FnScope nm__law_cut ["table", "places"] (defScope st__law_cut) := ⟨rfl, rfl, rfl, by decide +kernel, rfl, by decide +kernel, by decide +kernel⟩
abbrev st__law_drawn_table : Stmt := topS 29
abbrev nm__law_drawn_table : List Str := ["basin", "size", "most", "found", "at", "to"]
theorem sc__law_drawn_table : FnScope nm__law_drawn_table ["basin", "size", "most"] (defScope st__law_drawn_table) := ⟨rfl, rfl, rfl, by decide +kernel, rfl, by decide +kernel, by decide +kernel⟩
abbrev st__law_hung_table : Stmt := topS 30
abbrev nm__law_hung_table : List Str := ["basin", "size", "most", "left", "order", "found", "at", "to", "row"]
theorem sc__law_hung_table : FnScope nm__law_hung_table ["basin", "size", "most"] (defScope st__law_hung_table) := ⟨rfl, rfl, rfl, by decide +kernel, rfl, by decide +kernel, by decide +kernel⟩
abbrev st__law_moved_table : Stmt := topS 31
abbrev nm__law_moved_table : List Str := ["basin", "table", "left", "order"]
theorem sc__law_moved_table : FnScope nm__law_moved_table ["basin", "table"] (defScope st__law_moved_table) := ⟨rfl, rfl, rfl, by decide +kernel, rfl, by decide +kernel, by decide +kernel⟩
abbrev st__law_beside : Stmt := topS 32
abbrev nm__law_beside : List Str := ["one", "other", "link", "size", "more", "found", "row"]
theorem sc__law_beside : FnScope nm__law_beside ["one", "other", "link"] (defScope st__law_beside) := ⟨rfl, rfl, rfl, by decide +kernel, rfl, by decide +kernel, by decide +kernel⟩
abbrev st__law_shared : Stmt := topS 33
abbrev nm__law_shared : List Str := ["one", "other"]
theorem sc__law_shared : FnScope nm__law_shared ["one", "other"] (defScope st__law_shared) := ⟨rfl, rfl, rfl, by decide +kernel, rfl, by decide +kernel, by decide +kernel⟩
abbrev st__law_own_beat : Stmt := topS 34
abbrev nm__law_own_beat : List Str := ["table", "size", "found", "here", "length", "there", "to", "at"]
theorem sc__law_own_beat : FnScope nm__law_own_beat ["table"] (defScope st__law_own_beat) := ⟨rfl, rfl, rfl, by decide +kernel, rfl, by decide +kernel, by decide +kernel⟩
abbrev st__law_beating_table : Stmt := topS 35
abbrev nm__law_beating_table : List Str := ["basin", "many", "lot", "sizes", "lots", "size", "here", "found", "at", "to", "row"]
theorem sc__law_beating_table : FnScope nm__law_beating_table ["basin", "many"] (defScope st__law_beating_table) := ⟨rfl, rfl, rfl, by decide +kernel, rfl, by decide +kernel, by decide +kernel⟩
abbrev st__law_told : Stmt := topS 36
abbrev nm__law_told : List Str := ["call", "error"]
theorem sc__law_told : FnScope nm__law_told ["call"] (defScope st__law_told) := ⟨rfl, rfl, rfl, by decide +kernel, rfl, by decide +kernel, by decide +kernel⟩
abbrev st__law_is_told : Stmt := topS 37
abbrev nm__law_is_told : List Str := ["table", "is_hung", "due"]
theorem sc__law_is_told : FnScope nm__law_is_told ["table"] (defScope st__law_is_told) := ⟨rfl, rfl, rfl, by decide +kernel, rfl, by decide +kernel, by decide +kernel⟩
abbrev st__law_right : Stmt := topS 38
abbrev nm__law_right : List Str := ["basin", "size", "table", "hung", "many", "beating", "both"]
theorem sc__law_right : FnScope nm__law_right ["basin"] (defScope st__law_right) := ⟨rfl, rfl, rfl, by decide +kernel, rfl, by decide +kernel, by decide +kernel⟩
abbrev st_law : Stmt := topS 39
abbrev nm_law : List Str := ["script", "spot", "turned", "steps"]
theorem sc_law : FnScope nm_law ["script"] (defScope st_law) := ⟨rfl, rfl, rfl, by decide +kernel, rfl, by decide +kernel, by decide +kernel⟩
/-- what the top leaves -/
structure Txt (K : PySem.W.Frag) (mg : Str → Option Value) : Prop where
  f_is_integer : ∃ (f : Addr) (fd : FuncData), Fun K "is_integer" "is_integer" st_is_integer f fd ∧ mg "is_integer" = some (.ref f) ∧ Binds K fd ["value"] []
  f_is_within : ∃ (f : Addr) (fd : FuncData), Fun K "is_within" "is_within" st_is_within f fd ∧ mg "is_within" = some (.ref f) ∧ Binds K fd ["value", "least", "most"] []
  f_is_passed : ∃ (f : Addr) (fd : FuncData), Fun K "is_passed" "is_passed" st_is_passed f fd ∧ mg "is_passed" = some (.ref f) ∧ Binds K fd ["value"] []
  f_is_count_table : ∃ (f : Addr) (fd : FuncData), Fun K "is_count_table" "is_count_table" st_is_count_table f fd ∧ mg "is_count_table" = some (.ref f) ∧ Binds K fd ["value"] []
  f_check_count_table : ∃ (f : Addr) (fd : FuncData), Fun K "check_count_table" "check_count_table" st_check_count_table f fd ∧ mg "check_count_table" = some (.ref f) ∧ Binds K fd ["table"] []
  f_check_together : ∃ (f : Addr) (fd : FuncData), Fun K "check_together" "check_together" st_check_together f fd ∧ mg "check_together" = some (.ref f) ∧ Binds K fd ["table"] []
  f_reached_from : ∃ (f : Addr) (fd : FuncData), Fun K "reached_from" "reached_from" st_reached_from f fd ∧ mg "reached_from" = some (.ref f) ∧ Binds K fd ["table", "place"] []
  f_does_hang : ∃ (f : Addr) (fd : FuncData), Fun K "does_hang" "does_hang" st_does_hang f fd ∧ mg "does_hang" = some (.ref f) ∧ Binds K fd ["table"] []
  f_hangs_together : ∃ (f : Addr) (fd : FuncData), Fun K "hangs_together" "hangs_together" st_hangs_together f fd ∧ mg "hangs_together" = some (.ref f) ∧ Binds K fd ["table"] []
  f_pieces_of : ∃ (f : Addr) (fd : FuncData), Fun K "pieces_of" "pieces_of" st_pieces_of f fd ∧ mg "pieces_of" = some (.ref f) ∧ Binds K fd ["table"] []
  f_steps_from : ∃ (f : Addr) (fd : FuncData), Fun K "steps_from" "steps_from" st_steps_from f fd ∧ mg "steps_from" = some (.ref f) ∧ Binds K fd ["table"] []
  f_beat : ∃ (f : Addr) (fd : FuncData), Fun K "beat" "beat" st_beat f fd ∧ mg "beat" = some (.ref f) ∧ Binds K fd ["table"] []
  f__law_basin : ∃ (f : Addr) (fd : FuncData), Fun K "_law_basin" "_law_basin" st__law_basin f fd ∧ mg "_law_basin" = some (.ref f) ∧ Binds K fd ["script", "spot"] []
  f__law_scoop : ∃ (f : Addr) (fd : FuncData), Fun K "_law_scoop" "_law_scoop" st__law_scoop f fd ∧ mg "_law_scoop" = some (.ref f) ∧ Binds K fd ["basin", "many"] []
  f__law_taken : ∃ (f : Addr) (fd : FuncData), Fun K "_law_taken" "_law_taken" st__law_taken f fd ∧ mg "_law_taken" = some (.ref f) ∧ Binds K fd ["basin", "items"] []
  f__law_reached : ∃ (f : Addr) (fd : FuncData), Fun K "_law_reached" "_law_reached" st__law_reached f fd ∧ mg "_law_reached" = some (.ref f) ∧ Binds K fd ["table"] []
  f__law_parts : ∃ (f : Addr) (fd : FuncData), Fun K "_law_parts" "_law_parts" st__law_parts f fd ∧ mg "_law_parts" = some (.ref f) ∧ Binds K fd ["table"] []
  f__law_hangs : ∃ (f : Addr) (fd : FuncData), Fun K "_law_hangs" "_law_hangs" st__law_hangs f fd ∧ mg "_law_hangs" = some (.ref f) ∧ Binds K fd ["table"] []
  f__law_cut : ∃ (f : Addr) (fd : FuncData), Fun K "_law_cut" "_law_cut" st__law_cut f fd ∧ mg "_law_cut" = some (.ref f) ∧ Binds K fd ["table", "places"] []
  f__law_drawn_table : ∃ (f : Addr) (fd : FuncData), Fun K "_law_drawn_table" "_law_drawn_table" st__law_drawn_table f fd ∧ mg "_law_drawn_table" = some (.ref f) ∧ Binds K fd ["basin", "size", "most"] []
  f__law_hung_table : ∃ (f : Addr) (fd : FuncData), Fun K "_law_hung_table" "_law_hung_table" st__law_hung_table f fd ∧ mg "_law_hung_table" = some (.ref f) ∧ Binds K fd ["basin", "size", "most"] []
  f__law_moved_table : ∃ (f : Addr) (fd : FuncData), Fun K "_law_moved_table" "_law_moved_table" st__law_moved_table f fd ∧ mg "_law_moved_table" = some (.ref f) ∧ Binds K fd ["basin", "table"] []
  f__law_beside : ∃ (f : Addr) (fd : FuncData), Fun K "_law_beside" "_law_beside" st__law_beside f fd ∧ mg "_law_beside" = some (.ref f) ∧ Binds K fd ["one", "other", "link"] []
  f__law_shared : ∃ (f : Addr) (fd : FuncData), Fun K "_law_shared" "_law_shared" st__law_shared f fd ∧ mg "_law_shared" = some (.ref f) ∧ Binds K fd ["one", "other"] []
  f__law_own_beat : ∃ (f : Addr) (fd : FuncData), Fun K "_law_own_beat" "_law_own_beat" st__law_own_beat f fd ∧ mg "_law_own_beat" = some (.ref f) ∧ Binds K fd ["table"] []
  f__law_beating_table : ∃ (f : Addr) (fd : FuncData), Fun K "_law_beating_table" "_law_beating_table" st__law_beating_table f fd ∧ mg "_law_beating_table" = some (.ref f) ∧ Binds K fd ["basin", "many"] []
  f__law_told : ∃ (f : Addr) (fd : FuncData), Fun K "_law_told" "_law_told" st__law_told f fd ∧ mg "_law_told" = some (.ref f) ∧ Binds K fd ["call"] []
  f__law_is_told : ∃ (f : Addr) (fd : FuncData), Fun K "_law_is_told" "_law_is_told" st__law_is_told f fd ∧ mg "_law_is_told" = some (.ref f) ∧ Binds K fd ["table"] []
  f__law_right : ∃ (f : Addr) (fd : FuncData), Fun K "_law_right" "_law_right" st__law_right f fd ∧ mg "_law_right" = some (.ref f) ∧ Binds K fd ["basin"] []
  x_Refused : ∃ (nid iid : String) (tl : List Value) (fI : Addr), PySem.One.Txt K mg "ArithmeticError" nid iid tl "Refused" "reason" (cA mg "Refused") fI
  c_MAX_PASSED : ∃ t : Tok, mg "MAX_PASSED" = some (.int 999999999999999999999999999999999999999999999999999999999999 t)
  c_MAX_TIES : ∃ t : Tok, mg "MAX_TIES" = some (.int 24 t)
  n_abs : mg "abs" = none
  n_all : mg "all" = none
  n_bool : mg "bool" = none
  n_enumerate : mg "enumerate" = none
  n_int : mg "int" = none
  n_isinstance : mg "isinstance" = none
  n_len : mg "len" = none
  n_list : mg "list" = none
  n_max : mg "max" = none
  n_min : mg "min" = none
  n_range : mg "range" = none
  n_sorted : mg "sorted" = none
  n_sum : mg "sum" = none
  n_tuple : mg "tuple" = none
  n_zip : mg "zip" = none
  i_gcd : mg "gcd" = some (.builtin "math.gcd")
section
variable {P : Program} {w : World} {K : PySem.W.Frag} {mg : Str → Option Value} {base : Heap}
/-! is_integer, is_within -/
def spIsInt (K : PySem.W.Frag) : Sp := fun vs H Q _ => ∃ v o, vs = [v] ∧ En K H v o ∧ Q (.bl o.isSome) H
theorem ok_is_integer {f : Addr} {fd : FuncData} (F : Fun K "is_integer" "is_integer" st_is_integer f fd) (T : Txt K mg) : FnOk P w K mg base CX0 1 f fd ["value"] (spIsInt K) := by
  refine F.ok sc_is_integer (fun vs H Q E h => ?_) (fun cdv A outer s H vs Q E hr h => ?_)
  · obtain ⟨v, o, rfl, _⟩ := h
    rfl
  · obtain ⟨v, o, rfl, en, k⟩ := h
    refine ⟨_, (pss_one (ps_ret (pe_and (pe_callB (kcall_isi (K := K)) (by rfl) T.n_isinstance bo_isinstance (pa_cons (pv 0) (pa_cons (pe_bltn (by rfl) T.n_int bo_int rel_ty) pa_nil))) (pe_one (pe_not (pe_callB (kcall_isi (K := K)) (by rfl) T.n_isinstance bo_isinstance (pa_cons (pv 0) (pa_cons (pe_bltn (by rfl) T.n_bool bo_bool rel_ty) pa_nil)))))))), ?_⟩
    have key : ∀ (t : String) (i b : Bool), TyX K H v (.type t) → kitB t "int" = some i → kitB t "bool" = some b → (i && !b) = o.isSome →
        ∃ v1, (start nm_is_integer [v])[0]? = some (some v1) ∧ rIsi K [v1, .ty "int"] H fun x H1 => ∃ c, x = .bl c ∧ if c = true then (∃ v2, (start nm_is_integer [v])[0]? = some (some v2) ∧ rIsi K [v2, .ty "bool"] H1 fun x H1 => ∃ c, x = .bl c ∧ Q (.bl (!c)) H1) else Q (.bl false) H1 := fun t i b h k1 k2 e => by
      refine ⟨v, rfl, v, _, _, _, i, rfl, .ty _, h, kit_ty k1, i, rfl, ?_⟩
      cases i with
      | false =>
        rw [show o.isSome = false from e.symm] at k
        exact iteF k
      | true => exact iteT ⟨v, rfl, v, _, _, _, b, rfl, .ty _, h, kit_ty k2, b, rfl, by rw [show (!b) = o.isSome from e]; exact k⟩
    cases en with
    | int i => exact key "int" true false (.base (.int i)) (by decide +kernel) (by decide +kernel) rfl
    | oth h k1 k2 k3 => exact key _ _ _ h k1 k2 k3
theorem cl_is_integer (T : Txt K mg) : Cl P w K mg base 1 "is_integer" (spIsInt K) := by
  obtain ⟨f, fd, F, hm, hb⟩ := T.f_is_integer
  exact cl_of (ok_is_integer F T) hm F.kp hb
def spWithin : Sp := fun vs H Q _ => ∃ v l m : Int, vs = [.int v, .int l, .int m] ∧ Q (.bl (decide (l ≤ v ∧ v ≤ m))) H
theorem ok_is_within {f : Addr} {fd : FuncData} (F : Fun K "is_within" "is_within" st_is_within f fd) (T : Txt K mg) : FnOk P w K mg base CX0 2 f fd ["value", "least", "most"] spWithin := by
  have c_is_integer : Cl P w K mg base 1 "is_integer" (spIsInt K) := cl_is_integer T
  refine F.ok sc_is_within (fun vs H Q E h => ?_) (fun cdv A outer s H vs Q E hr h => ?_)
  · obtain ⟨v, l, m, rfl, _⟩ := h
    rfl
  · obtain ⟨v, l, m, rfl, k⟩ := h
    refine ⟨_, (pss_one (ps_ret (pe_and (pe_f c_is_integer hr (by decide) rfl (pa_cons (pv 0) pa_nil)) (pe_one (pe_chain op_le op_le (pv 1) (pv 0) (pv 2)))))), ?_⟩
    refine ⟨.int v, rfl, .int v, some v, rfl, .int v, true, rfl, iteT ⟨.int l, rfl, .int v, rfl, l, v, rfl, rfl, _, rfl, ?_⟩⟩
    refine ite2 (fun h1 => ⟨.int m, rfl, v, m, rfl, rfl, ?_⟩) fun h1 => ?_
    · have h1 := of_decide_eq_true h1
      have e : decide (l ≤ v ∧ v ≤ m) = decide (v ≤ m) := by simp [h1]
      rw [e] at k
      exact k
    · have h1 : ¬ l ≤ v := fun q => h1 (decide_eq_true q)
      have e : decide (l ≤ v ∧ v ≤ m) = false := by simp [h1]
      rw [e] at k
      exact k
theorem cl_is_within (T : Txt K mg) : Cl P w K mg base 2 "is_within" spWithin := by
  obtain ⟨f, fd, F, hm, hb⟩ := T.f_is_within
  exact cl_of (ok_is_within F T) hm F.kp hb
def bigP (i : Int) : Bool := decide (-(10 ^ 60 - 1 : Int) ≤ i ∧ i ≤ 10 ^ 60 - 1)
def spPassed : Sp := fun vs H Q _ => ∃ i : Int, vs = [.int i] ∧ Q (.bl (bigP i)) H
theorem ok_is_passed {f : Addr} {fd : FuncData} (F : Fun K "is_passed" "is_passed" st_is_passed f fd) (T : Txt K mg) : FnOk P w K mg base CX0 3 f fd ["value"] spPassed := by
  have c_is_within : Cl P w K mg base 2 "is_within" spWithin := cl_is_within T
  refine F.ok sc_is_passed (fun vs H Q E h => ?_) (fun cdv A outer s H vs Q E hr h => ?_)
  · obtain ⟨i, rfl, _⟩ := h
    rfl
  · obtain ⟨i, rfl, q⟩ := h
    refine ⟨_, (pss_one (ps_ret (pe_f c_is_within hr (by decide) rfl (pa_cons (pv 0) (pa_cons (pe_un un_neg (pe_glob rfl T.c_MAX_PASSED.choose_spec rel_int)) (pa_cons (pe_glob rfl T.c_MAX_PASSED.choose_spec rel_int) pa_nil)))))), ?_⟩
    exact ⟨.int i, rfl, _, rfl, i, _, _, rfl, q⟩
theorem cl_is_passed (T : Txt K mg) : Cl P w K mg base 3 "is_passed" spPassed := by
  obtain ⟨f, fd, F, hm, hb⟩ := T.f_is_passed
  exact cl_of (ok_is_passed F T) hm F.kp hb
/-! by value, for any law -/
section
variable {σ : L2.St} {H : Hp}
theorem es_isi {te : TE} {c : String} {b : Bool} (h : EvS te σ H (fun v H' => ∃ t, TyX K H' v (.type t) ∧ kitB t c = some b)) : EvS (tCB (rIsi K) (tCons te (tCons (tC (.ty c)) tNil))) σ H (IsV (.bl b)) := fun H1 e Q q =>
  h H1 e _ fun v H2 e2 ⟨t, ty, k⟩ => ⟨v, _, _, _, b, rfl, .ty _, ty, kit_ty k, q _ _ e2 rfl⟩
theorem es_chainI {f g : Int → Int → V} {ta tb tc : TE} {i j l : Int} {p q : Bool} (ha : EvS ta σ H (IsV (.int i))) (hb : EvS tb σ H (IsV (.int j))) (hc : EvS tc σ H (IsV (.int l))) (hf : f i j = .bl p) (hg : g j l = .bl q) : EvS (tChain (rI0 f) (rI0 g) ta tb tc) σ H (IsV (.bl (p && q))) := fun H1 e Q k =>
  ha H1 e _ fun x H2 e2 ex => hb H2 (Same.trans e e2) _ fun y H3 e3 ey => by
    subst ex
    subst ey
    refine ⟨i, j, rfl, rfl, p, hf, ?_⟩
    cases p with
    | true =>
      refine hc H3 (Same.trans (Same.trans e e2) e3) _ fun z H4 e4 ez => ?_
      subst ez
      exact ⟨j, l, rfl, rfl, k _ _ (Same.trans (Same.trans e2 e3) e4) hg⟩
    | false => exact k _ _ (Same.trans e2 e3) rfl
theorem es_andV {ta tb : TE} {a b : Bool} (h : EvS ta σ H (IsV (.bl a))) (g : a = true → EvS tb σ H (IsV (.bl b))) : EvS (tAndV ta tb) σ H (IsV (.bl (a && b))) := fun H1 e Q q =>
  h H1 e _ fun v H2 e2 ev => by
    subst ev
    refine ⟨a, rfl, ?_⟩
    cases a with
    | false => exact iteF (q _ _ e2 rfl)
    | true => exact iteT (g rfl H2 (Same.trans e e2) _ fun u H3 e3 eu => q u H3 (Same.trans e2 e3) eu)
theorem es_orV {ta tb : TE} {a b : Bool} (h : EvS ta σ H (IsV (.bl a))) (g : a = false → EvS tb σ H (IsV (.bl b))) : EvS (tOrV ta tb) σ H (IsV (.bl (a || b))) := fun H1 e Q q =>
  h H1 e _ fun v H2 e2 ev => by
    subst ev
    refine ⟨a, rfl, ?_⟩
    cases a with
    | true => exact iteT (q _ _ e2 rfl)
    | false => exact iteF (g rfl H2 (Same.trans e e2) _ fun u H3 e3 eu => q u H3 (Same.trans e2 e3) eu)
theorem asg_jn {te : TE} {g : TG} {u : TS} {D : Ends} (P : V → Hp → Prop) (hc : ∀ Q' : VK, (∀ v H, P v H → Q' v H) → te σ H Q') (rest : ∀ v H, P v H → g v σ H (u D)) : tSeq (tAsg te g) u D σ H := hc _ rest
theorem if_join {c : TT} {t u x : TS} {D : Ends} (J : L2.St → Hp → Prop) (rest : ∀ τ G, J τ G → x D τ G) (h : ∀ x' : L2.St → Hp → Prop, (∀ τ G, J τ G → x' τ G) → tIfS c t u { D with nx := x' } σ H) : tSeq (tIfS c t u) x D σ H := h _ rest
theorem tup_seq {i j : Nat} {ta tb : TE} {x : TS} {D : Ends} {P : V → Hp → Prop} (J : V → V → Hp → Prop) (ha : EvS ta σ H P) (hb : ∀ v H1, Same H H1 → P v H1 → ∀ Q' : VK, (∀ u H2, J v u H2 → Q' u H2) → tb σ H1 Q') (rest : ∀ v u H2 H3, J v u H2 → Same H2 H3 → x D ((σ.set i (some v)).set j (some u)) H3) : tSeq (tAsg (tTup (tCons ta (tCons tb tNil))) (gTup K 2 (gCons (gName i) (gCons (gName j) gNil)))) x D σ H :=
  ha H (Same.refl _) _ fun v H1 e1 hv => hb v H1 e1 hv _ fun u H2 hu => ⟨by show 2 ≤ sizeLine; decide, fun p hp => ⟨p, _, rfl, tup_of upd_same, rfl, _, _, rfl, _, _, rfl, rfl, rest v u H2 _ hu (new_same hp)⟩⟩
theorem es_fromV {i : Nat} {te : TE} {a : Addr} {ns : List Int} (k : Nat) (hi : σ[i]? = some (some (.ref a))) (h : SqT K H a (ns.map V.int)) (hk : EvS te σ H (IsV (.int (k : Int)))) : EvS (tSl (rSlA K) (tVar i) (tPart te) tNoPart) σ H (IsI K (ns.drop k)) := fun H1 e Q q =>
  ⟨.ref a, hi, hk H1 e _ fun v H2 e2 ev => ⟨(k : Int), ev, nopart (sl_ints (same_tup (Same.trans e e2) h) fun H3 p e3 hp => q _ _ (Same.trans e2 e3) ⟨p, rfl, by rw [cutI_from] at hp; exact hp⟩)⟩⟩
theorem es_toV {i : Nat} {te : TE} {a : Addr} {ns : List Int} (k : Nat) (hi : σ[i]? = some (some (.ref a))) (h : SqT K H a (ns.map V.int)) (hk : EvS te σ H (IsV (.int (k : Int)))) : EvS (tSl (rSlA K) (tVar i) tNoPart (tPart te)) σ H (IsI K (ns.take k)) := fun H1 e Q q =>
  ⟨.ref a, hi, hk H1 e _ fun v H2 e2 ev => ⟨(k : Int), ev, sl_ints (same_tup (Same.trans e e2) h) fun H3 p e3 hp => q _ _ (Same.trans e2 e3) ⟨p, rfl, by rw [cutI_to] at hp; exact hp⟩⟩⟩
theorem es_neD {ta tb : TE} {d e : PyData} (ha : EvS ta σ H (N0.IsD K d)) (hb : EvS tb σ H (N0.IsD K e)) (s1 : SeqAt.shaped d = true) (s2 : SeqAt.shaped e = true) (he : PyData.eqv d e = true) : EvS (tOp (rNeD K) ta tb) σ H (IsV (.bl false)) := fun H1 q1 Q q =>
  ha H1 q1 _ fun v H2 e2 hv => hb H2 (Same.trans q1 e2) _ fun u H3 e3 hu => ⟨d, e, dp_same e3 _ _ hv, hu, s1, s2, q _ _ (Same.trans e2 e3) (by rw [he]; rfl)⟩
theorem drop_seq {te : TE} {x : TS} {D : Ends} {P : V → Hp → Prop} (h : EvS te σ H P) (rest : ∀ H', Same H H' → x D σ H') : tSeq (tDrop te) x D σ H := h H (Same.refl _) _ fun v H' e _ => rest H' e
theorem es_neS {ta tb : TE} {v : V} (ha : EvS ta σ H (IsV v)) (hb : EvS tb σ H (IsV v)) (hs : scal v v = true) : EvS (tOp rNe ta tb) σ H (IsV (.bl false)) := fun H1 e Q q =>
  ha H1 e _ fun x H2 e2 hx => hb H2 (Same.trans e e2) _ fun y H3 e3 hy => by
    subst hx hy
    exact ⟨hs, q _ _ (Same.trans e2 e3) (by rw [decide_eq_true rfl]; rfl)⟩
theorem set_set {σ : L2.St} {i : Nat} {a b : Option V} : (σ.set i a).set i b = σ.set i b := by
  refine List.ext_getElem? fun j => ?_
  rw [List.getElem?_set, List.getElem?_set, List.getElem?_set, List.length_set]
  split
  · rfl
  · rfl
end
/-! tables, as tuples of rows -/
def TbT (K : PySem.W.Frag) (H : Hp) (a : Addr) (m : Tb.M) : Prop := ∃ ps : List V, SqT K H a ps ∧ ps.length = m.length ∧ ∀ (i : Nat) (p : V) (r : List Int), ps[i]? = some p → m[i]? = some r → ∃ b, p = .ref b ∧ SqT K H b (r.map V.int)
structure Tab (m : Tb.M) : Prop where
  sq : ∀ r ∈ m, r.length = m.length
  nn : ∀ r ∈ m, ∀ e ∈ r, 0 ≤ e ∧ e ≤ 1000
  n1 : 1 ≤ m.length
  n24 : m.length ≤ 24
theorem tb_same {H H1 : Hp} {a : Addr} {m : Tb.M} (e : Same H H1) (h : TbT K H a m) : TbT K H1 a m := by
  obtain ⟨ps, h1, h2, h3⟩ := h
  exact ⟨ps, same_tup e h1, h2, fun i p r hp hr => let ⟨b, eb, hb⟩ := h3 i p r hp hr; ⟨b, eb, same_tup e hb⟩⟩
theorem tb_rs {H H1 : Hp} {S a : Addr} {m : Tb.M} (r : Rs (some S) H H1) (h : TbT K H a m) : TbT K H1 a m := by
  obtain ⟨ps, h1, h2, h3⟩ := h
  exact ⟨ps, r.tup h1, h2, fun i p x hp hr => let ⟨b, eb, hb⟩ := h3 i p x hp hr; ⟨b, eb, r.tup hb⟩⟩
theorem tb_mutl {H : Hp} {D a : Addr} {ys : List V} {o : HO} {m : Tb.M} (d : H D = some (.lst ys)) (h : TbT K H a m) : TbT K (upd H D o) a m := by
  obtain ⟨ps, h1, h2, h3⟩ := h
  exact ⟨ps, tup_mutl d h1, h2, fun i p x hp hr => let ⟨b, eb, hb⟩ := h3 i p x hp hr; ⟨b, eb, tup_mutl d hb⟩⟩
theorem row_at {m : Tb.M} {j : Nat} (hj : j < m.length) : m[j]? = some (m.getD j []) := by
  rw [List.getD_eq_getElem?_getD, List.getElem?_eq_getElem hj]
  rfl
theorem row_mem {m : Tb.M} {j : Nat} (hj : j < m.length) : m.getD j [] ∈ m := List.mem_of_getElem? (row_at hj)
theorem int_at {r : List Int} {k : Nat} (hk : k < r.length) : (r.map V.int)[k]? = some (.int (r.getD k 0)) := by
  rw [List.getElem?_map, List.getD_eq_getElem?_getD, List.getElem?_eq_getElem hk]
  rfl
theorem Tab.row {m : Tb.M} (t : Tab m) {j : Nat} (hj : j < m.length) : (m.getD j []).length = m.length := t.sq _ (row_mem hj)
theorem Tab.en {m : Tb.M} (t : Tab m) {i j : Nat} (hi : i < m.length) (hj : j < m.length) : 0 ≤ Tb.en m i j ∧ Tb.en m i j ≤ 1000 := by
  refine t.nn _ (row_mem hi) _ ?_
  show (m.getD i []).getD j 0 ∈ _
  have h := t.row hi
  rw [List.getD_eq_getElem?_getD (l := m.getD i []), List.getElem?_eq_getElem (show j < (m.getD i []).length by omega)]
  exact List.getElem_mem _
section
variable {σ : L2.St} {H : Hp}
theorem tb_row {a : Addr} {m : Tb.M} (h : TbT K H a m) {j : Nat} (hj : j < m.length) : ∃ (ps : List V) (b : Addr), SqT K H a ps ∧ ps[j]? = some (.ref b) ∧ SqT K H b ((m.getD j []).map V.int) := by
  obtain ⟨ps, h1, h2, h3⟩ := h
  obtain ⟨b, eb, hb⟩ := h3 j _ _ (List.getElem?_eq_getElem (show j < ps.length by omega)) (row_at hj)
  exact ⟨ps, b, h1, by rw [List.getElem?_eq_getElem (show j < ps.length by omega), eb], hb⟩
theorem es_trow {i : Nat} {te : TE} {a : Addr} {m : Tb.M} {j : Nat} (hv : σ[i]? = some (some (.ref a))) (h : TbT K H a m) (hj : j < m.length) (he : EvS te σ H (IsV (.int (j : Int)))) : EvS (tOp (rIxT K) (tVar i) te) σ H (IsI K (m.getD j [])) := by
  obtain ⟨ps, b, h1, h2, h3⟩ := tb_row h hj
  exact es_imp (es_ixSq (es_seqT hv h1) he (atI_nat h2)) fun v H' e ev => ⟨b, ev, same_tup e h3⟩
theorem es_ten {i : Nat} {ta tb : TE} {a : Addr} {m : Tb.M} {j k : Nat} (hv : σ[i]? = some (some (.ref a))) (h : TbT K H a m) (t : Tab m) (hj : j < m.length) (hk : k < m.length) (ha : EvS ta σ H (IsV (.int (j : Int)))) (hb : EvS tb σ H (IsV (.int (k : Int)))) : EvS (tOp (rIxT K) (tOp (rIxT K) (tVar i) ta) tb) σ H (IsV (.int (Tb.en m j k))) :=
  es_ixT (es_trow hv h hj ha) hb (atI_nat (int_at (by rw [t.row hj]; exact hk)))
theorem es_lenTb {i : Nat} {a : Addr} {m : Tb.M} (hv : σ[i]? = some (some (.ref a))) (h : TbT K H a m) : EvS (tCB (N0.rLen K) (tCons (tVar i) tNil)) σ H (IsV (.int (m.length : Int))) := by
  obtain ⟨ps, h1, h2, h3⟩ := h
  exact es_as (es_lenSq (es_seqT hv h1)) (by rw [h2])
theorem flat_true {zs : Nat → List V} : ∀ n, flatN n zs (fun _ _ => V.bl true) = (List.replicate (flatN n zs fun _ _ => V.bl true).length true).map V.bl := fun n => by
  rw [List.map_replicate]
  refine List.eq_replicate_iff.mpr ⟨rfl, ?_⟩
  induction n with
  | zero => intro b hb; exact absurd hb (List.not_mem_nil)
  | succ n ih =>
    intro b hb
    rw [flatN_succ] at hb
    rcases List.mem_append.mp hb with h | h
    · exact ih b h
    · obtain ⟨_, _, e⟩ := List.mem_map.mp h
      exact e.symm
end
def spIsTab (K : PySem.W.Frag) : Sp := fun vs H Q _ => ∃ (a : Addr) (m : Tb.M), vs = [.ref a] ∧ TbT K H a m ∧ Tab m ∧ ∀ H', Same H H' → Q (.bl true) H'
theorem ok_is_count_table {f : Addr} {fd : FuncData} (F : Fun K "is_count_table" "is_count_table" st_is_count_table f fd) (T : Txt K mg) : FnOk P w K mg base CX0 4 f fd ["value"] (spIsTab K) := by
  have c_is_passed : Cl P w K mg base 3 "is_passed" spPassed := cl_is_passed T
  refine F.ok sc_is_count_table (fun vs H Q E h => ?_) (fun cdv A outer s H vs Q E hr h => ?_)
  · obtain ⟨a, m, rfl, _⟩ := h
    rfl
  · obtain ⟨a, m, rfl, hT, t, k⟩ := h
    obtain ⟨ps, t1, t2, t3⟩ := id hT
    have n1 := t.n1
    have n24 := t.n24
    have row : ∀ {i : Nat} {x : V}, ps[i]? = some x → ∃ b, x = .ref b ∧ SqT K H b ((m.getD i []).map V.int) ∧ (m.getD i []).length = m.length ∧ i < m.length := fun {i x} hx => by
      have hi : i < ps.length := (List.getElem?_eq_some_iff.mp hx).1
      obtain ⟨b, eb, hb⟩ := t3 i x _ hx (row_at (show i < m.length by omega))
      exact ⟨b, eb, hb, t.row (by omega), by omega⟩
    refine ⟨_, (pss_cons (ps_if (PW.pt (pw_or (pt_not (pt_val (pe_callB (kcall_isi (K := K)) (by rfl) T.n_isinstance bo_isinstance (pa_cons (pv 0) (pa_cons (pe_bltn (by rfl) T.n_tuple bo_tuple rel_ty) pa_nil))))) (pw_or1 (pt_not (pt_chain op_le op_le pe_int (pe_callB (kcall_len (K := K)) (by rfl) T.n_len bo_len (pa_cons (pv 0) pa_nil)) (pe_glob rfl T.c_MAX_TIES.choose_spec rel_int)))))) (pss_one (ps_ret pe_bl)) pss_nil) (pss_cons (ps_if (pt_not (pt_val (pe_callB (kcr_all (K := K) rfl) (by rfl) T.n_all bo_all (pa_cons (pe_lc (own := [("row", 1)]) rfl sc_is_count_table.nd (kpi_tup (K := K) (pv 0)) (blkOk_by (N := nm_is_count_table) (sc := defScope st_is_count_table) (by decide +kernel)) (fun _ _ _ _ _ => (pg_name (i := 1) sc_is_count_table.nd rfl (by first | exact Or.inl rfl | exact Or.inr rfl))) (fun _ _ _ _ _ => pts_nil) (fun _ _ _ _ _ => (pe_and (pe_callB (kcall_isi (K := K)) (by rfl) T.n_isinstance bo_isinstance (pa_cons (pv 1) (pa_cons (pe_bltn (by rfl) T.n_tuple bo_tuple rel_ty) pa_nil))) (pe_one (pe_cmpR op_eq (pe_callB (kcall_len (K := K)) (by rfl) T.n_len bo_len (pa_cons (pv 1) pa_nil)) (pe_callB (kcall_len (K := K)) (by rfl) T.n_len bo_len (pa_cons (pv 0) pa_nil)) (nomark _)))))) pa_nil)))) (pss_one (ps_ret pe_bl)) pss_nil) (pss_one (ps_ret (pe_callB (kcr_all (K := K) rfl) (by rfl) T.n_all bo_all (pa_cons (pe_lc2 (own := [("row", 1), ("entry", 2)]) (vs1 := [2]) rfl sc_is_count_table.nd (kpi_tup (K := K) (pv 0)) (blkOk_by (N := nm_is_count_table) (sc := defScope st_is_count_table) (by decide +kernel)) (by decide) (fun _ _ _ _ _ => (pg_name (i := 1) sc_is_count_table.nd rfl (by first | exact Or.inl rfl | exact Or.inr rfl))) (fun _ _ _ _ _ => pts_nil) (fun _ _ _ _ _ => (kpi_tup (K := K) (pv 1))) (fun _ _ _ _ _ => (pg_name (i := 2) sc_is_count_table.nd rfl (by first | exact Or.inl rfl | exact Or.inr rfl))) (fun _ _ _ _ _ => pts_nil) (fun _ _ _ _ _ => (pe_and (pe_f c_is_passed hr (by decide) rfl (pa_cons (pv 2) pa_nil)) (pe_one (pe_cmpR op_ge (pv 2) pe_int (nomark _)))))) pa_nil)))))), ?_⟩
    refine ifs_b (b := false) (eb_as (eb_or2 (eb_not (eb_bt (es_isi (b := true) (evs_var rfl fun H1 e => ⟨_, tyx_tup (same_tup e t1), by decide +kernel⟩)))) fun _ => eb_not (eb_test (es_chainI es_cV (es_lenTb rfl hT) es_cV rfl rfl))) ?_) (fun z => nomatch z) fun _ H1 e1 => ?_
    · rw [decide_eq_true (by omega), decide_eq_true (by omega)]
      rfl
    refine ifs_b (b := false) (eb_as (eb_not (eb_bt (es_all (bs := List.replicate ps.length true) (es_imp (es_lcV (b := fun _ => true) (fun _ => V.bl true) (fun x => [some (.ref a), some x, none]) (ei_tup (es_seqT rfl (same_tup e1 t1))) (by omega) (fun x hx H' Q q => q) (fun x hx => rfl) (fun x hx => eb_yes) fun x hx _ => ?_) fun v H' e p => ?_)))) (by simp)) (fun z => nomatch z) fun _ H2 e2 => ?_
    · obtain ⟨j, hj, rfl⟩ := List.mem_iff_getElem.mp hx
      obtain ⟨p, ep, hpq, hl, _⟩ := row (List.getElem?_eq_getElem hj)
      rw [ep]
      have hpq := same_tup e1 hpq
      refine es_as (es_andV (a := true) (b := true) (es_isi (b := true) (evs_var rfl fun H1 e => ⟨_, tyx_tup (same_tup e hpq), by decide +kernel⟩)) fun _ => es_as (es_eqI (es_lenSq (es_seqT rfl hpq)) (es_lenTb rfl (tb_same e1 hT))) ?_) rfl
      rw [List.length_map, hl, decide_eq_true rfl]
    · obtain ⟨D, ev, dD, nD⟩ := p
      refine ⟨D, ev, ?_, nD⟩
      rw [dD]
      congr 2
      rw [List.map_replicate, List.filter_eq_self.mpr fun _ _ => rfl]
      exact List.eq_replicate_iff.mpr ⟨by rw [List.length_map], fun b hb => by obtain ⟨_, _, e⟩ := List.mem_map.mp hb; exact e.symm⟩
    have e12 := Same.trans e1 e2
    have fl : ∀ n, n ≤ m.length → (flatN n (fun i => (m.getD i []).map V.int) fun _ _ => V.bl true).length ≤ 24 * n := fun n hn => by
      induction n with
      | zero => exact Nat.le_refl _
      | succ n ih =>
        rw [flatN_succ, List.length_append, List.length_map, List.length_map, t.row (by omega)]
        have := ih (by omega)
        omega
    refine es_ret (P := IsV (.bl true)) (es_as (es_all (es_imp (es_lc2 (xs := ps) (fun i => (m.getD i []).map V.int) (fun _ _ => V.bl true) (fun i => [some (.ref a), ps[i]?, none]) (fun i z => [some (.ref a), ps[i]?, some z]) (ei_tup (es_seqT rfl (same_tup e12 t1))) ?_ (fun i x hx H' Q q => ?_) (fun i hi => rfl) (fun i x hx => ?_) (fun i hi z hz H' Q q => q) (fun i hi z hz => rfl) fun i hi z hz => ?_) fun v H' e p => by rw [flat_true] at p; exact p)) (by simp)) fun v H' e ev => ev ▸ k H' (Same.trans e12 e)
    · have := fl ps.length (by omega)
      omega
    · rw [hx] at q
      exact q
    · obtain ⟨p, rfl, hp, _, _⟩ := row hx
      exact ej_tup (by show some ps[i]? = _; rw [hx]) (same_tup e12 hp)
    · obtain ⟨x, hx, rfl⟩ := List.mem_map.mp hz
      have := t.nn _ (row_mem (show i < m.length by omega)) x hx
      refine es_as (es_andV (a := true) (b := true) (es_fn (evc (es_vV rfl) ev0) fun H1 e Q q => ⟨x, rfl, q _ _ (Same.refl _) ?_⟩) fun _ => es_as (es_i0 (es_vV rfl) es_cV) (by show V.bl _ = _; rw [decide_eq_true (by omega)])) rfl
      show V.bl (bigP x) = _
      unfold bigP
      rw [decide_eq_true]
      exact ⟨Int.le_trans (b := 0) (by decide) this.1, Int.le_trans this.2 (by decide)⟩
theorem cl_is_count_table (T : Txt K mg) : Cl P w K mg base 4 "is_count_table" (spIsTab K) := by
  obtain ⟨f, fd, F, hm, hb⟩ := T.f_is_count_table
  exact cl_of (ok_is_count_table F T) hm F.kp hb
def spChkTab (K : PySem.W.Frag) : Sp := fun vs H Q _ => ∃ (a : Addr) (m : Tb.M), vs = [.ref a] ∧ TbT K H a m ∧ Tab m ∧ ∀ H', Same H H' → Q .non H'
theorem ok_check_count_table {f : Addr} {fd : FuncData} (F : Fun K "check_count_table" "check_count_table" st_check_count_table f fd) (T : Txt K mg) : FnOk P w K mg base CX0 5 f fd ["table"] (spChkTab K) := by
  have c_is_count_table : Cl P w K mg base 4 "is_count_table" (spIsTab K) := cl_is_count_table T
  refine F.ok sc_check_count_table (fun vs H Q E h => ?_) (fun cdv A outer s H vs Q E hr h => ?_)
  · obtain ⟨a, m, rfl, _⟩ := h
    rfl
  · obtain ⟨a, m, rfl, hT, t, k⟩ := h
    refine ⟨_, (pss_one (ps_if (pt_not (pt_val (pe_f c_is_count_table hr (by decide) rfl (pa_cons (pv 0) pa_nil)))) (pss_one ps_never) pss_nil)), ?_⟩
    exact ifs_1 (b := false) (eb_as (eb_not (eb_bt (es_fn (P := IsV (.bl true)) (evc (es_vV rfl) ev0) fun H1 e Q q => ⟨a, m, rfl, tb_same e hT, t, fun H' e' => q _ _ e' rfl⟩))) rfl) (fun z => nomatch z) fun _ H1 e1 => k H1 e1
theorem cl_check_count_table (T : Txt K mg) : Cl P w K mg base 5 "check_count_table" (spChkTab K) := by
  obtain ⟨f, fd, F, hm, hb⟩ := T.f_check_count_table
  exact cl_of (ok_check_count_table F T) hm F.kp hb
/-! what is reached -/
def kvT (ks : List Nat) : List (Key × V) := ks.map fun k : Nat => (Sum.inl (k : Int), V.bl true)
def natV (k : Nat) : V := .int (k : Int)
theorem valV_kvT {k : Nat} : ∀ {ks : List Nat}, valV (kvT ks) (Sum.inl (k : Int)) = if k ∈ ks then some (V.bl true) else none
  | [] => rfl
  | x :: ks => by
    show valV ((Sum.inl (x : Int), V.bl true) :: kvT ks) _ = _
    by_cases h : x = k
    · subst h
      rw [valV_pos rfl, if_pos List.mem_cons_self]
    · rw [valV_neg (by show ¬ (Sum.inl (x : Int) : Key) = _; intro q; exact h (Int.ofNat.inj (Sum.inl.inj q))), valV_kvT]
      by_cases hk : k ∈ ks
      · rw [if_pos hk, if_pos (List.mem_cons_of_mem _ hk)]
      · rw [if_neg hk, if_neg (fun q => (List.mem_cons.mp q).elim (fun e => h e.symm) hk)]
theorem kvT_snoc {ks : List Nat} {k : Nat} : kvT (ks ++ [k]) = kvT ks ++ [(Sum.inl (k : Int), V.bl true)] := List.map_append
theorem closed_reach {m : Tb.M} {i : Nat} {ks : List Nat} (h : ∀ x, x = i ∨ x ∈ ks → ∀ j, Tb.E m x j → j ∈ ks) : ∀ {l : List Nat} {x j : Nat}, (x = i ∨ x ∈ ks) → l ≠ [] → Tb.P m x l j → j ∈ ks
  | [], _, _, _, hl, _ => absurd rfl hl
  | k :: l, x, j, hx, _, hp => by
    have hk := h x hx k hp.1
    by_cases hl : l = []
    · subst hl
      exact (show k = j from hp.2) ▸ hk
    · exact closed_reach h (l := l) (.inr hk) hl hp.2
def spReach (K : PySem.W.Frag) : Sp := fun vs H Q _ => ∃ (a : Addr) (m : Tb.M) (i : Nat), vs = [.ref a, natV i] ∧ TbT K H a m ∧ Tab m ∧ i < m.length ∧ ∀ H' d ks, Same H H' → H d = none → H' d = some (.dK (kvT ks)) → ks.Nodup → (∀ j, j ∈ ks ↔ Tb.R m i j) → Q (.ref d) H'
/-- the state of the walk: the keys ks, the places ws that wait -/
structure Wst (m : Tb.M) (i : Nat) (ks ws : List Nat) : Prop where
  nd : ks.Nodup
  rc : ∀ x ∈ ks, Tb.R m i x
  ws : ∀ x ∈ ws, x = i ∨ x ∈ ks
structure Wcl (m : Tb.M) (i : Nat) (ks ws : List Nat) (x k : Nat) : Prop where
  st : Wst m i ks ws
  xs : x = i ∨ x ∈ ks
  c1 : ∀ y, y ≠ x → (y = i ∨ y ∈ ks) → y ∉ ws → ∀ j, Tb.E m y j → j ∈ ks
  c2 : ∀ j, j < k → Tb.E m x j → j ∈ ks
theorem Wst.len {m : Tb.M} {i : Nat} {ks ws : List Nat} (s : Wst m i ks ws) : ks.length ≤ m.length := Tb.nodup_lt s.nd fun x hx => (s.rc x hx).lt.2
theorem Wcl.skip {m : Tb.M} {i : Nat} {ks ws : List Nat} {x k : Nat} (c : Wcl m i ks ws x k) (h : Tb.E m x k → k ∈ ks) : Wcl m i ks ws x (k + 1) := ⟨c.st, c.xs, c.c1, fun j hj e => by
  by_cases q : j = k
  · subst q; exact h e
  · exact c.c2 j (by omega) e⟩
theorem Wcl.push {m : Tb.M} {i : Nat} {ks ws : List Nat} {x k : Nat} (c : Wcl m i ks ws x k) (h : Tb.E m x k) (n : k ∉ ks) : Wcl m i (ks ++ [k]) (ws ++ [k]) x (k + 1) := by
  have rk : Tb.R m i k := by
    rcases c.xs with rfl | hx
    · exact .of h
    · exact (c.st.rc x hx).trans (.of h)
  refine ⟨⟨?_, fun y hy => ?_, fun y hy => ?_⟩, ?_, fun y hy hm hw j e => ?_, fun j hj e => ?_⟩
  · rw [List.nodup_append]
    exact ⟨c.st.nd, by simp, fun a ha b hb => by rw [List.mem_singleton.mp hb]; exact fun q => n (q ▸ ha)⟩
  · rcases List.mem_append.mp hy with hy | hy
    · exact c.st.rc y hy
    · rw [List.mem_singleton.mp hy]; exact rk
  · rcases List.mem_append.mp hy with hy | hy
    · exact (c.st.ws y hy).imp id (List.mem_append_left _)
    · exact .inr (List.mem_append_right _ hy)
  · exact c.xs.imp id (List.mem_append_left _)
  · have hw1 : y ∉ ws := fun q => hw (List.mem_append_left _ q)
    have hw2 : y ≠ k := fun q => hw (List.mem_append_right _ (by rw [q]; exact List.mem_singleton.mpr rfl))
    refine List.mem_append_left _ (c.c1 y hy (hm.imp id fun q => ?_) hw1 j e)
    rcases List.mem_append.mp q with q | q
    · exact q
    · exact absurd (List.mem_singleton.mp q) hw2
  · by_cases q : j = k
    · subst q; exact List.mem_append_right _ (List.mem_singleton.mpr rfl)
    · exact List.mem_append_left _ (c.c2 j (by omega) e)
theorem same_mut {H G : Hp} {w : Addr} {o : HO} (h : H w = none) (e : Same H G) : Same H (upd G w o) := fun b ob hb => by
  rw [upd_ne (fun q => by rw [q, h] at hb; cases hb)]
  exact e b ob hb
theorem tup_mutD {H : Hp} {D a : Addr} {kvs : List (Key × V)} {xs : List V} {o : HO} (d : H D = some (.dK kvs)) (h : SqT K H a xs) : SqT K (upd H D o) a xs := by
  have ne : ∀ {u : HO}, H a = some u → (∀ ys, u ≠ .dK ys) → upd H D o a = some u := fun h hn => by
    rw [upd_ne (fun q => by rw [q, d] at h; cases h; exact hn _ rfl)]
    exact h
  rcases h with (h | ⟨u, h⟩) | h
  · exact .inl (.inl (ne h fun _ q => nomatch q))
  · exact .inl (.inr ⟨u, ne h fun _ q => nomatch q⟩)
  · exact .inr h
theorem es_dnin {σ : L2.St} {H : Hp} {ty td : TE} {d : Addr} {kvs : List (Key × V)} {k : Key} (h1 : EvS ty σ H (IsV (kV k))) (h2 : EvS td σ H (IsV (.ref d))) (hd : H d = some (.dK kvs)) : EvS (tDNotIn ty td) σ H (IsV (.bl (!(valV kvs k).isSome))) := fun H1 e Q q =>
  h1 H1 e _ fun v H2 e2 ev => h2 H2 (Same.trans e e2) _ fun u H3 e3 eu => by
    subst ev eu
    exact ⟨d, _, rfl, DGet.k ((Same.trans (Same.trans e e2) e3) _ _ hd), q _ _ (Same.trans e2 e3) rfl⟩
theorem es_din {σ : L2.St} {H : Hp} {ty td : TE} {d : Addr} {kvs : List (Key × V)} {k : Key} (h1 : EvS ty σ H (IsV (kV k))) (h2 : EvS td σ H (IsV (.ref d))) (hd : H d = some (.dK kvs)) : EvS (tDIn ty td) σ H (IsV (.bl (valV kvs k).isSome)) := fun H1 e Q q =>
  h1 H1 e _ fun v H2 e2 ev => h2 H2 (Same.trans e e2) _ fun u H3 e3 eu => by
    subst ev eu
    exact ⟨d, _, rfl, DGet.k ((Same.trans (Same.trans e e2) e3) _ _ hd), q _ _ (Same.trans e2 e3) rfl⟩
def RfW (a : Addr) (i : Nat) (d w : Addr) (H : Hp) (m : Tb.M) (M : Nat) (τ : L2.St) (G : Hp) : Prop := ∃ ks ws x4 x5 x6, τ = [some (.ref a), some (natV i), some (.ref d), some (.ref w), x4, x5, x6] ∧ Same H G ∧ G d = some (.dK (kvT ks)) ∧ G w = some (.lst (ws.map natV)) ∧ Wst m i ks ws ∧ (∀ y, (y = i ∨ y ∈ ks) → y ∉ ws → ∀ j, Tb.E m y j → j ∈ ks) ∧ ws.length + 2 * (m.length - ks.length) ≤ 1 + 2 * m.length ∧ M = ws.length + 2 * (m.length - ks.length)
theorem ok_reached_from {f : Addr} {fd : FuncData} (F : Fun K "reached_from" "reached_from" st_reached_from f fd) (T : Txt K mg) : FnOk P w K mg base CX0 1 f fd ["table", "place"] (spReach K) := by
  refine F.ok sc_reached_from (fun vs H Q E h => ?_) (fun cdv A outer s H vs Q E hr h => ?_)
  · obtain ⟨a, m, i, rfl, _⟩ := h
    rfl
  · obtain ⟨a, m, i, rfl, hT, t, hi, k⟩ := h
    refine ⟨_, (pss_cons (ps_set (i := 2) sc_reached_from.nd rfl (Or.inl rfl) pe_dnewK) (pss_cons (ps_set (i := 3) sc_reached_from.nd rfl (Or.inl rfl) (pe_lst (pa_cons (pv 1) pa_nil))) (pss_cons (ps_while PassesOwn.never (kpt_truth (K := K) (pv 3) (by intro _; rfl)) (pss_cons (ps_set (i := 4) sc_reached_from.nd rfl (Or.inl rfl) (pe_ix (kix_tup (K := K)) (pv 0) (pe_bm0 PySem.F.plainAttrs_list PySem.F.slot_list_pop PySem.F.type_list_pop mt_pop (pv 3)) (fun _ _ => rfl))) (pss_one (ps_for PassesOwn.never rfl (kpi_enumA (K := K) rfl T.n_enumerate (pa_cons (pv 4) pa_nil)) (kpg_tup (K := K) (n := 2) rfl (pgs_cons (pg_name (i := 5) sc_reached_from.nd rfl (Or.inl rfl)) (pgs_cons (pg_name (i := 6) sc_reached_from.nd rfl (Or.inl rfl)) pgs_nil))) (pss_one (ps_if (PW.pt (pw_and (pt_cmpR op_gt (pv 6) pe_int (nomark _)) (pw_and1 (pt_cmp (pc_dnotin (hu_of hr) (pv 5) (pv 2)) (by rfl))))) (pss_cons (ps_asg pe_bl (pg_sub (pv 2) (pv 5) (set_dict (hu_of hr)))) (pss_one (ps_expr (pe_bm PySem.F.plainAttrs_list PySem.F.slot_list_append PySem.F.type_list_append mt_append (pv 3) (pa_cons (pv 5) pa_nil))))) pss_nil)))))) (pss_one (ps_ret (pv 2)))))), ?_⟩
    refine fun d hd => ⟨natV i, rfl, by show 1 ≤ sizeLine; decide, fun w hw => ?_⟩
    have hdw : d ≠ w := fun q => by rw [q, upd_same] at hw; cases hw
    have hw0 : H w = none := by rwa [upd_ne (Ne.symm hdw)] at hw
    refine ⟨RfW a i d w H m, ⟨_, [], [i], none, none, none, rfl, ?_, ?_, upd_same, ⟨List.nodup_nil, fun x hx => absurd hx (List.not_mem_nil), fun x hx => .inl (List.mem_singleton.mp hx)⟩, fun y hy hn => ?_, by simp, rfl⟩, ?_⟩
    · exact Same.trans (new_same hd) (new_same hw)
    · rw [upd_ne hdw]; exact upd_same
    · rcases hy with rfl | hy
      · exact absurd (List.mem_singleton.mpr rfl) hn
      · exact absurd hy (List.not_mem_nil)
    · rintro M τ G ⟨ks, ws, x4, x5, x6, rfl, sG, gd, gw, st, cl, mb, rfl⟩
      refine ⟨.ref w, rfl, !ws.isEmpty, .inl ⟨ws.map natV, lst_of gw, by cases ws <;> rfl⟩, ?_⟩
      by_cases hws : ws = []
      · subst hws
        refine iteF ?_
        exact ⟨.ref d, rfl, k G d ks sG hd gd st.nd fun j => ⟨fun hj => st.rc j hj, fun ⟨l, hl, hp⟩ => closed_reach (fun x hx => cl x hx (List.not_mem_nil)) (.inl rfl) hl hp⟩⟩
      · obtain ⟨ws0, x, rfl⟩ : ∃ ws0 x, ws = ws0 ++ [x] := ⟨ws.dropLast, ws.getLast hws, (List.dropLast_concat_getLast hws).symm⟩
        rw [show (!(ws0 ++ [x]).isEmpty) = true by simp]
        refine iteT ⟨fun τ' G' => ∃ M', M' < (ws0 ++ [x]).length + 2 * (m.length - ks.length) ∧ RfW a i d w H m M' τ' G', fun _ _ h => h, ?_⟩
        have hx : x = i ∨ x ∈ ks := st.ws x (by simp)
        have hxn : x < m.length := by
          rcases hx with rfl | hx
          · exact hi
          · exact (st.rc x hx).lt.2
        have hT1 := tb_same sG hT
        have e1 : ((ws0 ++ [x]).map natV).dropLast = ws0.map natV := by rw [List.map_append]; exact List.dropLast_concat
        have e2 : ((ws0 ++ [x]).map natV)[((ws0 ++ [x]).map natV).length - 1]? = some (natV x) := by
          rw [List.map_append, List.length_append]
          simp
        obtain ⟨ps, b, h1, h2, h3⟩ := tb_row hT1 hxn
        have d1 : ∀ {u : HO}, (∀ ys, u ≠ .lst ys) → ∀ {c : Addr}, G c = some u → upd G w (.lst (ws0.map natV)) c = some u := fun {u} hu {c} hc => by
          rw [upd_ne (fun q => by rw [q, gw] at hc; cases hc; exact hu _ rfl)]
          exact hc
        refine ⟨.ref a, rfl, .ref w, rfl, .inl ⟨rfl, _, lst_of gw⟩, w, _, natV x, rfl, rfl, gw, e2, a, ps, (x : Int), .ref b, rfl, rfl, tup_mutl gw h1, atI_nat h2, ?_⟩
        rw [e1]
        have hb := tup_mutl (o := .lst (ws0.map natV)) gw h3
        have gd1 := d1 (u := .dK (kvT ks)) (fun _ q => by cases q) gd
        have sG1 : Same H (upd G w (.lst (ws0.map natV))) := same_mut hw0 sG
        have gw1 : upd G w (.lst (ws0.map natV)) w = some (.lst (ws0.map natV)) := upd_same
        generalize upd G w (.lst (ws0.map natV)) = G1 at hb gd1 sG1 gw1
        have rl := t.row hxn
        have cl0 : Wcl m i ks ws0 x 0 := ⟨⟨st.nd, st.rc, fun y hy => st.ws y (List.mem_append_left _ hy)⟩, hx, fun y hy hm hn j e => cl y hm (fun q => (List.mem_append.mp q).elim hn fun q => hy (List.mem_singleton.mp q)) j e, fun j hj => absurd hj (Nat.not_lt_zero _)⟩
        refine for_enumT (K := K) (a := b) (xs := (m.getD x []).map V.int) (es_vV rfl) hb (fun k τ G => ∃ ks' ws' x5 x6, τ = [some (.ref a), some (natV i), some (.ref d), some (.ref w), some (.ref b), x5, x6] ∧ Same H G ∧ G d = some (.dK (kvT ks')) ∧ G w = some (.lst (ws'.map natV)) ∧ Wcl m i ks' ws' x k ∧ SqT K G b ((m.getD x []).map V.int) ∧ ws'.length + 2 * (m.length - ks'.length) ≤ ws0.length + 2 * (m.length - ks.length)) (fun G2 e2 => ⟨ks, ws0, _, _, rfl, Same.trans sG1 e2, e2 _ _ gd1, e2 _ _ gw1, cl0, same_tup e2 hb, Nat.le_refl _⟩) (fun k τ G2 _ p => by obtain ⟨ks', ws', x5, x6, _, _, _, _, _, hb', _⟩ := p; exact hb') (fun k v τ G2 hv p G3 e3 => ?_) fun τ G2 p => ?_
        · obtain ⟨ks', ws', x5, x6, rfl, sG2, gd2, gw2, c2, hb2, ml⟩ := p
          have hk : k < m.length := by
            have := (List.getElem?_eq_some_iff.mp hv).1
            rw [List.length_map] at this
            omega
          rw [int_at (by rw [rl]; exact hk)] at hv
          cases hv
          have sG3 := Same.trans sG2 e3
          have gd3 := e3 _ _ gd2
          have gw3 := e3 _ _ gw2
          have hb3 := same_tup e3 hb2
          have lk := c2.st.len
          refine ifs_1 (b := decide (0 < Tb.en m x k) && !decide (k ∈ ks')) (eb_and2 (eb_test (es_i0 (es_vV rfl) es_cV)) fun _ => eb_as (eb_bt (es_dnin (d := d) (k := Sum.inl (k : Int)) (es_vV rfl) (es_vV rfl) gd3)) ?_) (fun hc G4 e4 => ?_) fun hc G4 e4 => ?_
          · rw [valV_kvT]
            by_cases h : k ∈ ks'
            · rw [if_pos h, decide_eq_true h]; rfl
            · rw [if_neg h, decide_eq_false h]; rfl
          · obtain ⟨hc1, hc2⟩ : 0 < Tb.en m x k ∧ k ∉ ks' := by simpa using hc
            have gd4 := e4 _ _ gd3
            have gw4 := e4 _ _ gw3
            have hE : Tb.E m x k := ⟨hxn, hk, hc1⟩
            have c3 := c2.push hE hc2
            have l3 := c3.st.len
            simp only [List.length_append, List.length_cons, List.length_nil] at l3
            have hv0 : valV (kvT ks') (Sum.inl (k : Int)) = none := by rw [valV_kvT, if_neg hc2]
            refine ⟨.ref d, rfl, natV k, rfl, d, _, rfl, .inl ⟨kvT ks', Sum.inl (k : Int), gd4, rfl, small1000 (by unfold kvT; rw [List.length_map]; have := t.n24; omega), rfl⟩, ?_⟩
            rw [putK_new hv0, ← kvT_snoc]
            have gw5 : upd G4 d (.dK (kvT (ks' ++ [k]))) w = some (.lst (ws'.map natV)) := by rw [upd_ne (Ne.symm hdw)]; exact gw4
            have hws3 : ws'.length ≤ 100 := by have := t.n24; simp only [List.length_append, List.length_cons, List.length_nil] at mb; omega
            refine ⟨.ref w, rfl, .inl ⟨rfl, _, lst_of gw5⟩, natV k, rfl, w, _, _, rfl, rfl, gw5, small1000 (by rw [List.length_map]; omega), ?_⟩
            refine ⟨ks' ++ [k], ws' ++ [k], _, _, rfl, same_mut hw0 (same_mut hd (Same.trans sG3 e4)), ?_, ?_, c3, tup_mutl gw5 (tup_mutD gd4 (same_tup e4 hb3)), ?_⟩
            · rw [upd_ne hdw]; exact upd_same
            · rw [List.map_append]; exact upd_same
            · rw [List.length_append, List.length_append]
              simp only [List.length_cons, List.length_nil]
              omega
          · refine ⟨ks', ws', _, _, rfl, Same.trans sG3 e4, e4 _ _ gd3, e4 _ _ gw3, c2.skip fun hE => ?_, same_tup e4 hb3, ml⟩
            by_cases h : k ∈ ks'
            · exact h
            · rw [decide_eq_true hE.2.2, decide_eq_false h] at hc
              cases hc
        · obtain ⟨ks', ws', x5, x6, rfl, sG2, gd2, gw2, c2, hb2, ml⟩ := p
          rw [List.length_map, rl] at c2
          refine ⟨_, ?_, ks', ws', _, _, _, rfl, sG2, gd2, gw2, c2.st, fun y hy hn j e => ?_, ?_, rfl⟩
          · rw [List.length_append]
            show _ < ws0.length + 1 + _
            omega
          · by_cases q : y = x
            · subst q; exact c2.c2 j e.2.1 e
            · exact c2.c1 y q hy hn j e
          · simp only [List.length_append, List.length_cons, List.length_nil] at mb
            omega
theorem cl_reached_from (T : Txt K mg) : Cl P w K mg base 1 "reached_from" (spReach K) := by
  obtain ⟨f, fd, F, hm, hb⟩ := T.f_reached_from
  exact cl_of (ok_reached_from F T) hm F.kp hb
/-! does a table hang together -/
noncomputable def allR (m : Tb.M) (i : Nat) : Bool := @decide (∀ j, j < m.length → Tb.R m i j) (Classical.propDecidable _)
theorem allR_iff {m : Tb.M} {i : Nat} : allR m i = true ↔ ∀ j, j < m.length → Tb.R m i j := by
  unfold allR
  exact @decide_eq_true_iff _ (Classical.propDecidable _)
theorem all_keys {m : Tb.M} {i : Nat} {ks : List Nat} (nd : ks.Nodup) (h : ∀ j, j ∈ ks ↔ Tb.R m i j) : decide ((ks.length : Int) = (m.length : Int)) = allR m i := by
  have lt : ∀ x ∈ ks, x < m.length := fun x hx => ((h x).mp hx).lt.2
  rw [Bool.eq_iff_iff, decide_eq_true_iff, allR_iff]
  constructor
  · intro hl j hj
    by_cases q : j ∈ ks
    · exact (h j).mp q
    · have := Tb.nodup_lt (l := j :: ks) (n := m.length) (List.nodup_cons.mpr ⟨q, nd⟩) fun x hx => by
        rcases List.mem_cons.mp hx with rfl | hx
        · exact hj
        · exact lt x hx
      rw [List.length_cons] at this
      omega
  · intro H
    have h1 := Tb.nodup_lt nd lt
    have h2 := Tb.nodup_le (l := List.range m.length) (t := ks) List.nodup_range fun x hx => (h x).mpr (H x (List.mem_range.mp hx))
    rw [List.length_range] at h2
    omega
theorem all_hg {m : Tb.M} : (((List.range m.length).map (allR m)).all id) = true ↔ Tb.Hg m := by
  rw [List.all_eq_true]
  constructor
  · intro h i j hi hj
    exact allR_iff.mp (h _ (List.mem_map.mpr ⟨i, List.mem_range.mpr hi, rfl⟩)) j hj
  · intro h b hb
    obtain ⟨i, hi, rfl⟩ := List.mem_map.mp hb
    exact allR_iff.mpr fun j hj => h i j (List.mem_range.mp hi) hj
section
variable {σ : L2.St} {H : Hp}
theorem es_lenDK {te : TE} {P : V → Hp → Prop} {R : Int → Prop} (h : EvS te σ H P) (hp : ∀ v H', Same H H' → P v H' → ∃ d kvs, v = .ref d ∧ H' d = some (.dK kvs) ∧ R ((kvs.length : Nat) : Int)) : EvS (tCB (fun xs H Q => ∃ a kvs, xs = [V.ref a] ∧ H a = some (.dK kvs) ∧ Q (.int ((kvs.length : Nat) : Int)) H) (tCons te tNil)) σ H (fun v _ => ∃ i, v = .int i ∧ R i) := es_cb1 h fun v H1 e p Q q => by
  obtain ⟨d, kvs, ev, hd, hl⟩ := hp v H1 e p
  subst ev
  exact ⟨d, kvs, rfl, hd, q _ _ (Same.refl _) ⟨_, rfl, hl⟩⟩
theorem es_eqX {ta tb : TE} {R : Int → Prop} {j : Int} {b : Bool} (ha : EvS ta σ H (fun v _ => ∃ i, v = .int i ∧ R i)) (hb : EvS tb σ H (IsV (.int j))) (hr : ∀ i, R i → decide (i = j) = b) : EvS (tOp rEq ta tb) σ H (IsV (.bl b)) := fun H1 e Q q =>
  ha H1 e _ fun v H2 e2 ⟨i, ev, hi⟩ => hb H2 (Same.trans e e2) _ fun u H3 e3 eu => by
    have := es_eqI (σ := σ) (H := H3) (ta := tC (.int i)) (tb := tC (.int j)) es_cV es_cV H3 (Same.refl _) Q fun w H4 e4 ew => q w H4 (Same.trans (Same.trans e2 e3) e4) (by rw [← hr i hi]; exact ew)
    subst ev
    rw [show u = _ from eu]
    exact this
def fN (f : Nat → V) : V → V
  | .int i => f i.toNat
  | _ => .non
theorem mem_rangeV {n : Nat} {x : V} (h : x ∈ (List.range n).map fun i : Nat => V.int (i : Int)) : ∃ i, i < n ∧ x = .int (i : Int) := by
  obtain ⟨i, hi, rfl⟩ := List.mem_map.mp h
  exact ⟨i, List.mem_range.mp hi, rfl⟩
theorem map_fN {n : Nat} {f : Nat → V} : ((List.range n).map fun i : Nat => V.int (i : Int)).map (fN f) = (List.range n).map f := by
  rw [List.map_map]
  rfl
/-- [f i for i in range(n)] -/
theorem es_lcRg {g : TG} {ta te : TE} {vs : List Nat} {n : Nat} (f : Nat → V) (τ : V → L2.St) (hn : EvS ta σ H (IsV (.int (n : Int)))) (hz : n ≤ 1000)
    (hg : ∀ i, i < n → ∀ H' Q, Q (τ (.int (i : Int))) H' → g (.int (i : Int)) (wipe σ vs) H' Q) (hw : ∀ i, i < n → wipe (τ (.int (i : Int))) vs = wipe σ vs) (he : ∀ i, i < n → EvS te (τ (.int (i : Int))) H (IsV (f i))) :
    EvS (tLc (iRng1 (tCons ta tNil)) g tYes te vs) σ H (NewL H ((List.range n).map f)) := by
  have := es_lcV (b := fun _ => true) (fN f) τ (ei_range hn (by omega)) (by rw [List.length_map, List.length_range]; omega) (fun x hx => by obtain ⟨i, hi, rfl⟩ := mem_rangeV hx; exact hg i hi) (fun x hx => by obtain ⟨i, hi, rfl⟩ := mem_rangeV hx; exact hw i hi) (fun x hx => eb_yes) fun x hx _ => by obtain ⟨i, hi, rfl⟩ := mem_rangeV hx; exact he i hi
  rw [List.filter_eq_self.mpr fun _ _ => rfl, map_fN] at this
  exact this
end
def spHang (K : PySem.W.Frag) : Sp := fun vs H Q _ => ∃ (a : Addr) (m : Tb.M), vs = [.ref a] ∧ TbT K H a m ∧ Tab m ∧ ∀ H' b, Same H H' → (b = true ↔ Tb.Hg m) → Q (.bl b) H'
theorem ok_does_hang {f : Addr} {fd : FuncData} (F : Fun K "does_hang" "does_hang" st_does_hang f fd) (T : Txt K mg) : FnOk P w K mg base CX0 2 f fd ["table"] (spHang K) := by
  have c_reached_from : Cl P w K mg base 1 "reached_from" (spReach K) := cl_reached_from T
  refine F.ok sc_does_hang (fun vs H Q E h => ?_) (fun cdv A outer s H vs Q E hr h => ?_)
  · obtain ⟨a, m, rfl, _⟩ := h
    rfl
  · obtain ⟨a, m, rfl, hT, t, k⟩ := h
    have n24 := t.n24
    refine ⟨_, (pss_one (ps_ret (pe_callB (kcr_all (K := K) rfl) (by rfl) T.n_all bo_all (pa_cons (pe_lc (own := [("place", 1)]) rfl sc_does_hang.nd (pi_range1 rfl T.n_range (pa_cons (pe_callB (kcall_len (K := K)) (by rfl) T.n_len bo_len (pa_cons (pv 0) pa_nil)) pa_nil)) (blkOk_by (N := nm_does_hang) (sc := defScope st_does_hang) (by decide +kernel)) (fun _ _ _ _ _ => (pg_name (i := 1) sc_does_hang.nd rfl (by first | exact Or.inl rfl | exact Or.inr rfl))) (fun _ _ _ _ _ => pts_nil) (fun _ _ _ _ _ => (pe_cmpR op_eq (pe_callB call_lenD (by rfl) T.n_len bo_len (pa_cons (pe_f c_reached_from hr (by decide) rfl (pa_cons (pv 0) (pa_cons (pv 1) pa_nil))) pa_nil)) (pe_callB (kcall_len (K := K)) (by rfl) T.n_len bo_len (pa_cons (pv 0) pa_nil)) (nomark _)))) pa_nil)))), ?_⟩
    refine es_ret (P := IsV (.bl (((List.range m.length).map (allR m)).all id))) (es_all (es_imp (es_lcRg (fun i => V.bl (allR m i)) (fun x => [some (.ref a), some x]) (es_lenTb rfl hT) (by omega) (fun i hi H' Q q => q) (fun i hi => rfl) fun i hi => ?_) fun v H' e p => by rw [List.map_map]; exact p)) fun v H' e ev => ev ▸ k H' _ e all_hg
    refine es_eqX (R := fun x => decide (x = (m.length : Int)) = allR m i) (es_lenDK (P := fun v H' => ∃ d ks, v = .ref d ∧ H' d = some (.dK (kvT ks)) ∧ ks.Nodup ∧ ∀ j, j ∈ ks ↔ Tb.R m i j) (es_fn (evc (es_vV rfl) (evc (es_vV rfl) ev0)) fun H1 e Q q => ⟨a, m, i, rfl, tb_same e hT, t, hi, fun H' d ks e' hd0 hd nd hm => q _ _ e' ⟨d, ks, rfl, hd, nd, hm⟩⟩) ?_) (es_lenTb rfl hT) fun x hx => hx
    rintro v H' e ⟨d, ks, ev, hd, nd, hm⟩
    refine ⟨d, _, ev, hd, ?_⟩
    unfold kvT
    rw [List.length_map]
    exact all_keys nd hm
theorem cl_does_hang (T : Txt K mg) : Cl P w K mg base 2 "does_hang" (spHang K) := by
  obtain ⟨f, fd, F, hm, hb⟩ := T.f_does_hang
  exact cl_of (ok_does_hang F T) hm F.kp hb
theorem ok_hangs_together {f : Addr} {fd : FuncData} (F : Fun K "hangs_together" "hangs_together" st_hangs_together f fd) (T : Txt K mg) : FnOk P w K mg base CX0 6 f fd ["table"] (spHang K) := by
  have c_check_count_table : Cl P w K mg base 5 "check_count_table" (spChkTab K) := cl_check_count_table T
  have c_does_hang : Cl P w K mg base 2 "does_hang" (spHang K) := cl_does_hang T
  refine F.ok sc_hangs_together (fun vs H Q E h => ?_) (fun cdv A outer s H vs Q E hr h => ?_)
  · obtain ⟨a, m, rfl, _⟩ := h
    rfl
  · obtain ⟨a, m, rfl, hT, t, k⟩ := h
    refine ⟨_, (pss_cons (ps_expr (pe_f c_check_count_table hr (by decide) rfl (pa_cons (pv 0) pa_nil))) (pss_one (ps_ret (pe_f c_does_hang hr (by decide) rfl (pa_cons (pv 0) pa_nil))))), ?_⟩
    exact drop_seq (P := IsV .non) (es_fn (evc (es_vV rfl) ev0) fun H1 e Q q => ⟨a, m, rfl, tb_same e hT, t, fun H' e' => q _ _ e' rfl⟩) fun H1 e1 => ⟨.ref a, rfl, a, m, rfl, tb_same e1 hT, t, fun H' b e' hb => k H' b (Same.trans e1 e') hb⟩
theorem cl_hangs_together (T : Txt K mg) : Cl P w K mg base 6 "hangs_together" (spHang K) := by
  obtain ⟨f, fd, F, hm, hb⟩ := T.f_hangs_together
  exact cl_of (ok_hangs_together F T) hm F.kp hb
/-! steps from the place 0 -/
def kvS (ks : List Nat) (dd : Nat → Int) : List (Key × V) := kvI (ks.map fun k : Nat => ((k : Int), dd k))
theorem find_ks {dd : Nat → Int} {x : Nat} : ∀ {ks : List Nat}, x ∈ ks → ((ks.map fun k : Nat => ((k : Int), dd k)).find? fun p => decide (p.1 = (x : Int))).map (·.2) = some (dd x)
  | k :: ks, h => by
    by_cases q : k = x
    · subst q
      rw [List.map_cons, List.find?_cons_of_pos (by simp)]
      rfl
    · rw [List.map_cons, List.find?_cons_of_neg (by simp only [decide_eq_true_eq]; intro z; exact q (Int.ofNat.inj z))]
      exact find_ks ((List.mem_cons.mp h).resolve_left fun e => q e.symm)
theorem find_no {dd : Nat → Int} {x : Nat} : ∀ {ks : List Nat}, x ∉ ks → valV (kvS ks dd) (Sum.inl (x : Int)) = none := fun {ks} h => by
  unfold kvS
  rw [valV_kvI]
  have : (ks.map fun k : Nat => ((k : Int), dd k)).find? (fun p => decide (p.1 = (x : Int))) = none := by
    rw [List.find?_eq_none]
    intro p hp q
    obtain ⟨k, hk, rfl⟩ := List.mem_map.mp hp
    have := of_decide_eq_true q
    exact h ((Int.ofNat.inj this) ▸ hk)
  rw [this]
  rfl
theorem find_yes {dd : Nat → Int} {x : Nat} {ks : List Nat} (h : x ∈ ks) : valV (kvS ks dd) (Sum.inl (x : Int)) = some (.int (dd x)) := by
  unfold kvS
  rw [valV_kvI]
  have := find_ks (dd := dd) h
  cases q : (ks.map fun k : Nat => ((k : Int), dd k)).find? (fun p => decide (p.1 = (x : Int))) with
  | none => rw [q] at this; cases this
  | some p => rw [q] at this; exact congrArg (fun o : Option Int => o.map V.int) this
structure Sst (m : Tb.M) (ks : List Nat) (dd : Nat → Int) : Prop where
  nd : ks.Nodup
  z : 0 ∈ ks
  d0 : dd 0 = 0
  p : ∀ x ∈ ks, ∃ l, Tb.P m 0 l x ∧ (l.length : Int) = dd x
  lt : ∀ x ∈ ks, x < m.length
theorem Sst.push {m : Tb.M} {ks : List Nat} {dd : Nat → Int} (s : Sst m ks dd) {x k : Nat} (hx : x ∈ ks) (e : Tb.E m x k) (n : k ∉ ks) : Sst m (ks ++ [k]) (fun y => if y = k then dd x + 1 else dd y) := by
  refine ⟨?_, List.mem_append_left _ s.z, ?_, fun y hy => ?_, fun y hy => ?_⟩
  · rw [List.nodup_append]
    exact ⟨s.nd, by simp, fun a ha b hb => by rw [List.mem_singleton.mp hb]; exact fun q => n (q ▸ ha)⟩
  · show (if 0 = k then dd x + 1 else dd 0) = 0
    rw [if_neg (fun q => n (by rw [← q]; exact s.z))]
    exact s.d0
  · rcases List.mem_append.mp hy with hy | hy
    · rw [if_neg (show ¬ y = k from fun q => n (by rw [← q]; exact hy))]
      exact s.p y hy
    · rw [List.mem_singleton.mp hy, if_pos (show k = k from rfl)]
      obtain ⟨l, h1, h2⟩ := s.p x hx
      exact ⟨l ++ [k], Tb.p_app h1 (Tb.p_one e), by rw [List.length_append, ← h2]; rfl⟩
  · rcases List.mem_append.mp hy with hy | hy
    · exact s.lt y hy
    · rw [List.mem_singleton.mp hy]; exact e.2.1
theorem kvS_push {ks : List Nat} {dd : Nat → Int} {k : Nat} {v : Int} (n : k ∉ ks) : kvS (ks ++ [k]) (fun y => if y = k then v else dd y) = kvS ks dd ++ [(Sum.inl (k : Int), .int v)] := by
  unfold kvS
  rw [List.map_append, kvI_app]
  congr 1
  · congr 1
    refine List.map_congr_left fun y hy => ?_
    simp only []
    rw [if_neg (fun q : y = k => n (by rw [← q]; exact hy))]
  · simp
def spSteps (K : PySem.W.Frag) : Sp := fun vs H Q _ => ∃ (a : Addr) (m : Tb.M), vs = [.ref a] ∧ TbT K H a m ∧ Tab m ∧ Tb.Hg m ∧ ∀ H' d ks dd, Same H H' → H d = none → H' d = some (.dK (kvS ks dd)) → Sst m ks dd → (∀ j, j < m.length → j ∈ ks) → Q (.ref d) H'
def SfW (a d w : Addr) (H : Hp) (m : Tb.M) (M : Nat) (τ : L2.St) (G : Hp) : Prop := ∃ ks dd e x4 x5 x6, τ = [some (.ref a), some (.ref d), some (.ref w), some (natV e), x4, x5, x6] ∧ Same H G ∧ G d = some (.dK (kvS ks dd)) ∧ G w = some (.lst (ks.map natV)) ∧ Sst m ks dd ∧ e ≤ ks.length ∧ (∀ p x, p < e → ks[p]? = some x → ∀ j, Tb.E m x j → j ∈ ks) ∧ M = m.length - e
theorem ok_steps_from {f : Addr} {fd : FuncData} (F : Fun K "steps_from" "steps_from" st_steps_from f fd) (T : Txt K mg) : FnOk P w K mg base CX0 1 f fd ["table"] (spSteps K) := by
  refine F.ok sc_steps_from (fun vs H Q E h => ?_) (fun cdv A outer s H vs Q E hr h => ?_)
  · obtain ⟨a, m, rfl, _⟩ := h
    rfl
  · obtain ⟨a, m, rfl, hT, t, hg, k⟩ := h
    have n1 := t.n1
    have n24 := t.n24
    refine ⟨_, (pss_cons (ps_set (i := 1) sc_steps_from.nd rfl (Or.inl rfl) (pe_disp1 pe_int pe_int)) (pss_cons (ps_set (i := 2) sc_steps_from.nd rfl (Or.inl rfl) (pe_lst (pa_cons pe_int pa_nil))) (pss_cons (ps_set (i := 3) sc_steps_from.nd rfl (Or.inl rfl) pe_int) (pss_cons (ps_while PassesOwn.never (pt_cmpR op_lt (pv 3) (pe_callB (kcall_len (K := K)) (by rfl) T.n_len bo_len (pa_cons (pv 2) pa_nil)) (nomark _)) (pss_cons (ps_set (i := 4) sc_steps_from.nd rfl (Or.inl rfl) (pe_ix (kix_list (K := K)) (pv 2) (pv 3) (fun _ _ => rfl))) (pss_cons (ps_aug (i := 3) sc_steps_from.nd rfl (Or.inl rfl) pe_int ip_add) (pss_one (ps_for PassesOwn.never rfl (kpi_enumA (K := K) rfl T.n_enumerate (pa_cons (pe_ix (kix_tup (K := K)) (pv 0) (pv 4) (fun _ _ => rfl)) pa_nil)) (kpg_tup (K := K) (n := 2) rfl (pgs_cons (pg_name (i := 5) sc_steps_from.nd rfl (Or.inl rfl)) (pgs_cons (pg_name (i := 6) sc_steps_from.nd rfl (Or.inl rfl)) pgs_nil))) (pss_one (ps_if (PW.pt (pw_and (pt_cmpR op_gt (pv 6) pe_int (nomark _)) (pw_and1 (pt_cmp (pc_dnotin (hu_of hr) (pv 5) (pv 1)) (by rfl))))) (pss_cons (ps_asg (pe_op op_add (pe_dget (hu_of hr) (pv 1) (pv 4) (fun _ _ => rfl)) pe_int) (pg_sub (pv 1) (pv 5) (set_dict (hu_of hr)))) (pss_one (ps_expr (pe_bm PySem.F.plainAttrs_list PySem.F.slot_list_append PySem.F.type_list_append mt_append (pv 2) (pa_cons (pv 5) pa_nil))))) pss_nil))))))) (pss_one (ps_ret (pv 1))))))), ?_⟩
    refine fun d hd => ⟨upd_same, [(Sum.inl 0, .int 0)], rfl, by decide, ⟨by show 1 ≤ sizeLine; decide, fun w hw => ?_⟩⟩
    have hdw : d ≠ w := fun q => by rw [q, upd_same] at hw; cases hw
    have hw0 : H w = none := by rwa [upd_ne (Ne.symm hdw), upd_ne (Ne.symm hdw)] at hw
    refine ⟨SfW a d w H m, ⟨_, [0], fun _ => 0, 0, none, none, none, rfl, same_mut hw0 (same_mut hd (new_same hd)), ?_, upd_same, ⟨by simp, by simp, rfl, fun x hx => ⟨[], (List.mem_singleton.mp hx).symm, rfl⟩, fun x hx => by rw [List.mem_singleton.mp hx]; omega⟩, by simp, fun p x hp => absurd hp (Nat.not_lt_zero _), rfl⟩, ?_⟩
    · rw [upd_ne hdw]; exact upd_same
    · rintro M τ G ⟨ks, dd, e, x4, x5, x6, rfl, sG, gd, gw, st, he, cl, rfl⟩
      have lk : ks.length ≤ m.length := Tb.nodup_lt st.nd st.lt
      refine eb_test (b := decide ((e : Int) < (ks.length : Int))) (es_i0 (i := (e : Int)) (j := (ks.length : Int)) (es_vV rfl) (es_as (es_lenL (es_seqL rfl (lst_of gw))) (by rw [List.length_map]))) G (Same.refl _) _ fun G1 e1 => ?_
      have sG1 := Same.trans sG e1
      have gd1 := e1 _ _ gd
      have gw1 := e1 _ _ gw
      by_cases hlt : e < ks.length
      · rw [decide_eq_true (by omega)]
        refine iteT ⟨fun τ' G' => ∃ M', M' < m.length - e ∧ SfW a d w H m M' τ' G', fun _ _ h => h, ?_⟩
        obtain ⟨x, hx⟩ : ∃ x, ks[e]? = some x := ⟨_, List.getElem?_eq_getElem hlt⟩
        have hxm : x ∈ ks := List.mem_of_getElem? hx
        have hxn := st.lt x hxm
        refine ⟨.ref w, rfl, natV e, rfl, w, _, _, natV x, rfl, rfl, lst_of gw1, atI_nat (by rw [List.getElem?_map, hx]; rfl), ?_⟩
        refine ⟨natV e, rfl, (e : Int), 1, rfl, rfl, ?_⟩
        have hT2 := tb_same sG1 hT
        obtain ⟨ps, b, h1, h2, h3⟩ := tb_row hT2 hxn
        have rl := t.row hxn
        refine for_enumT (K := K) (a := b) (xs := (m.getD x []).map V.int) (es_ixSq (es_seqT rfl h1) (es_vV rfl) (atI_nat h2)) h3 (fun k τ G => ∃ ks' dd' x5 x6, τ = [some (.ref a), some (.ref d), some (.ref w), some (.int ((e : Int) + 1)), some (natV x), x5, x6] ∧ Same H G ∧ G d = some (.dK (kvS ks' dd')) ∧ G w = some (.lst (ks'.map natV)) ∧ Sst m ks' dd' ∧ (∃ t, ks' = ks ++ t) ∧ (∀ j, j < k → Tb.E m x j → j ∈ ks') ∧ SqT K G b ((m.getD x []).map V.int)) (fun G2 e2 => ⟨ks, dd, _, _, rfl, Same.trans sG1 e2, e2 _ _ gd1, e2 _ _ gw1, st, ⟨[], by simp⟩, fun j hj => absurd hj (Nat.not_lt_zero _), same_tup e2 h3⟩) (fun k τ G2 _ p => by obtain ⟨ks', dd', x5, x6, _, _, _, _, _, _, _, hb'⟩ := p; exact hb') (fun k v τ G2 hv p G3 e3 => ?_) fun τ G2 p => ?_
        · obtain ⟨ks', dd', x5, x6, rfl, sG2, gd2, gw2, st2, ⟨r, hr2⟩, c2, hb2⟩ := p
          have hk : k < m.length := by
            have := (List.getElem?_eq_some_iff.mp hv).1
            rw [List.length_map] at this
            omega
          rw [int_at (by rw [rl]; exact hk)] at hv
          cases hv
          have sG3 := Same.trans sG2 e3
          have gd3 := e3 _ _ gd2
          have gw3 := e3 _ _ gw2
          have hb3 := same_tup e3 hb2
          have lk' : ks'.length ≤ m.length := Tb.nodup_lt st2.nd st2.lt
          have hxm' : x ∈ ks' := by rw [hr2]; exact List.mem_append_left _ hxm
          refine ifs_1 (b := decide (0 < Tb.en m x k) && !decide (k ∈ ks')) (eb_and2 (eb_test (es_i0 (es_vV rfl) es_cV)) fun _ => eb_as (eb_bt (es_dnin (d := d) (k := Sum.inl (k : Int)) (es_vV rfl) (es_vV rfl) gd3)) ?_) (fun hc G4 e4 => ?_) fun hc G4 e4 => ?_
          · by_cases h : k ∈ ks'
            · rw [find_yes h, decide_eq_true h]; rfl
            · rw [find_no h, decide_eq_false h]; rfl
          · obtain ⟨hc1, hc2⟩ : 0 < Tb.en m x k ∧ k ∉ ks' := by simpa using hc
            have gd4 := e4 _ _ gd3
            have hE : Tb.E m x k := ⟨hxn, hk, hc1⟩
            have st3 := st2.push hxm' hE hc2
            refine es_i0 (f := fun i j => V.int (i + j)) (es_dgI (k := (x : Int)) (v := dd' x) gd4 (es_vV rfl) (es_vV rfl) (find_ks hxm')) es_cV G4 (Same.refl _) _ fun v G5 e5 ev => ?_
            subst ev
            have gd5 := e5 _ _ gd4
            have gw5 := e5 _ _ (e4 _ _ gw3)
            have hb5 := same_tup (Same.trans e4 e5) hb3
            have sG5 := Same.trans sG3 (Same.trans e4 e5)
            refine ⟨.ref d, rfl, natV k, rfl, d, _, rfl, .inl ⟨kvS ks' dd', Sum.inl (k : Int), gd5, rfl, small1000 (by unfold kvS kvI; rw [List.length_map, List.length_map]; omega), rfl⟩, ?_⟩
            rw [putK_new (find_no hc2), ← kvS_push hc2]
            have gw6 : upd G5 d (.dK (kvS (ks' ++ [k]) (fun y => if y = k then dd' x + 1 else dd' y))) w = some (.lst (ks'.map natV)) := by rw [upd_ne (Ne.symm hdw)]; exact gw5
            refine ⟨.ref w, rfl, .inl ⟨rfl, _, lst_of gw6⟩, natV k, rfl, w, _, _, rfl, rfl, gw6, small1000 (by rw [List.length_map]; omega), ?_⟩
            refine ⟨ks' ++ [k], _, _, _, rfl, same_mut hw0 (same_mut hd sG5), ?_, ?_, st3, ⟨r ++ [k], by rw [hr2, List.append_assoc]⟩, fun j hj e' => ?_, tup_mutl gw6 (tup_mutD gd5 hb5)⟩
            · rw [upd_ne hdw]; exact upd_same
            · rw [List.map_append]; exact upd_same
            · by_cases q : j = k
              · subst q; exact List.mem_append_right _ (List.mem_singleton.mpr rfl)
              · exact List.mem_append_left _ (c2 j (by omega) e')
          · refine ⟨ks', dd', _, _, rfl, Same.trans sG3 e4, e4 _ _ gd3, e4 _ _ gw3, st2, ⟨r, hr2⟩, fun j hj e' => ?_, same_tup e4 hb3⟩
            by_cases q : j = k
            · subst q
              by_cases h : j ∈ ks'
              · exact h
              · rw [decide_eq_true e'.2.2, decide_eq_false h] at hc
                cases hc
            · exact c2 j (by omega) e'
        · obtain ⟨ks', dd', x5, x6, rfl, sG2, gd2, gw2, st2, ⟨r, hr2⟩, c2, hb2⟩ := p
          rw [List.length_map, rl] at c2
          have lr : ks.length ≤ ks'.length := by rw [hr2, List.length_append]; omega
          refine ⟨m.length - (e + 1), by omega, ks', dd', e + 1, _, _, _, rfl, sG2, gd2, gw2, st2, by omega, fun p y hp hy j e' => ?_, rfl⟩
          have hpk : p < ks.length := by omega
          have hy' : ks[p]? = some y := by
            rw [hr2, List.getElem?_append_left hpk] at hy
            exact hy
          by_cases q : p = e
          · subst q
            rw [hx] at hy'
            cases hy'
            exact c2 j e'.2.1 e'
          · rw [hr2]
            exact List.mem_append_left _ (cl p y (by omega) hy' j e')
      · rw [decide_eq_false (by omega)]
        refine iteF ⟨.ref d, rfl, k G1 d ks dd sG1 hd gd1 st fun j hj => ?_⟩
        obtain ⟨l, hl, hp⟩ := hg 0 j (by omega) hj
        refine closed_reach (i := 0) (fun x hx j e' => ?_) (.inl rfl) hl hp
        have hx' : x ∈ ks := by
          rcases hx with rfl | hx
          · exact st.z
          · exact hx
        obtain ⟨p, hp, rfl⟩ := List.mem_iff_getElem.mp hx'
        exact cl p _ (by omega) (List.getElem?_eq_getElem hp) j e'
theorem cl_steps_from (T : Txt K mg) : Cl P w K mg base 1 "steps_from" (spSteps K) := by
  obtain ⟨f, fd, F, hm, hb⟩ := T.f_steps_from
  exact cl_of (ok_steps_from F T) hm F.kp hb
/-! pieces -/
noncomputable def rB (m : Tb.M) (i j : Nat) : Bool := @decide (Tb.R m i j) (Classical.propDecidable _)
theorem rB_iff {m : Tb.M} {i j : Nat} : rB m i j = true ↔ Tb.R m i j := by
  unfold rB
  exact @decide_eq_true_iff _ (Classical.propDecidable _)
theorem rB_tr {m : Tb.M} : ∀ i j k, rB m i j = true → rB m j k = true → rB m i k = true := fun i j k h g => rB_iff.mpr ((rB_iff.mp h).trans (rB_iff.mp g))
theorem rB_mem {m : Tb.M} {i j : Nat} {ks : List Nat} (h : ∀ j, j ∈ ks ↔ Tb.R m i j) : decide (j ∈ ks) = rB m i j := by
  rw [Bool.eq_iff_iff, decide_eq_true_iff, rB_iff]
  exact h j
def natI (k : Nat) : Int := (k : Int)
theorem natV_map (l : List Nat) : l.map natV = (l.map natI).map V.int := by
  rw [List.map_map]
  rfl
noncomputable def clsM (m : Tb.M) (i : Nat) : List Nat := Tb.cls (rB m) m.length i
noncomputable def partsM (m : Tb.M) (a : Nat) : Tb.M := ((Tb.firsts (rB m) m.length a).map (clsM m)).map fun l => l.map natI
theorem partsM_succ {m : Tb.M} {a : Nat} : partsM m (a + 1) = partsM m a ++ if (clsM m a).head? = some a then [(clsM m a).map natI] else [] := by
  unfold partsM
  rw [Tb.firsts_succ, List.map_append, List.map_append]
  congr 1
  show _ = if (Tb.cls (rB m) m.length a).head? = some a then _ else _
  split <;> rfl
/-- rows at ps, by place -/
def RwA (K : PySem.W.Frag) (H : Hp) (ps : List V) (rows : Tb.M) : Prop := ps.length = rows.length ∧ ∀ (i : Nat) (p : V) (r : List Int), ps[i]? = some p → rows[i]? = some r → ∃ b, p = .ref b ∧ SqT K H b (r.map V.int)
theorem rwa_same {H H1 : Hp} {ps : List V} {rows : Tb.M} (e : Same H H1) (h : RwA K H ps rows) : RwA K H1 ps rows := ⟨h.1, fun i p r hp hr => let ⟨b, eb, hb⟩ := h.2 i p r hp hr; ⟨b, eb, same_tup e hb⟩⟩
theorem rwa_mutl {H : Hp} {D : Addr} {ys : List V} {o : HO} {ps : List V} {rows : Tb.M} (d : H D = some (.lst ys)) (h : RwA K H ps rows) : RwA K (upd H D o) ps rows := ⟨h.1, fun i p r hp hr => let ⟨b, eb, hb⟩ := h.2 i p r hp hr; ⟨b, eb, tup_mutl d hb⟩⟩
theorem rwa_nil {H : Hp} : RwA K H [] [] := ⟨rfl, fun i p r hp => nomatch hp⟩
theorem rwa_snoc {H : Hp} {ps : List V} {rows : Tb.M} {b : Addr} {r : List Int} (h : RwA K H ps rows) (hb : SqT K H b (r.map V.int)) : RwA K H (ps ++ [.ref b]) (rows ++ [r]) := by
  refine ⟨by rw [List.length_append, List.length_append, h.1]; rfl, fun i p x hp hx => ?_⟩
  by_cases q : i < ps.length
  · rw [List.getElem?_append_left q] at hp
    rw [List.getElem?_append_left (by rw [← h.1]; exact q)] at hx
    exact h.2 i p x hp hx
  · rw [List.getElem?_append_right (by omega)] at hp
    rw [List.getElem?_append_right (by rw [← h.1]; omega)] at hx
    rw [← h.1] at hx
    cases z : i - ps.length with
    | zero => rw [z] at hp hx; cases hp; cases hx; exact ⟨b, rfl, hb⟩
    | succ n => rw [z] at hp; cases hp
theorem tb_of {H : Hp} {a : Addr} {ps : List V} {m : Tb.M} (h : SqT K H a ps) (g : RwA K H ps m) : TbT K H a m := ⟨ps, h, g.1, g.2⟩
/-- a dict of those reached from i -/
def RcD (m : Tb.M) (i : Nat) (y : V) (H : Hp) : Prop := ∃ d ks, y = .ref d ∧ H d = some (.dK (kvT ks)) ∧ ks.Nodup ∧ ∀ j, j ∈ ks ↔ Tb.R m i j
section
variable {σ : L2.St} {H : Hp}
theorem es_lock {t : TE} {d : Addr} {u : HO} {ys : List V} (hd : H d = some u) (mu : Mut (some u)) (h : ∀ od, EvS t σ (upd H d (.frz od u)) (NewL (upd H d (.frz od u)) ys)) : EvS (tLockE t) σ H (NewL H ys) := fun H1 e Q q =>
  ⟨d, u, e _ _ hd, mu, fun od => h od _ (fun b o hb => by
    by_cases z : b = d
    · subst z
      rw [upd_same] at hb ⊢
      exact hb
    · rw [upd_ne z] at hb ⊢
      exact e _ _ hb) _ fun v H2 e2 ⟨D, ev, dD, nD⟩ => by
    have nDd : D ≠ d := fun z => by rw [z, upd_same] at nD; cases nD
    refine ⟨e2 _ _ upd_same, q v _ (fun b o hb => ?_) ⟨D, ev, by rw [upd_ne nDd]; exact dD, by rwa [upd_ne nDd] at nD⟩⟩
    by_cases z : b = d
    · subst z
      rw [upd_same, ← hb, e _ _ hd]
    · rw [upd_ne z]
      exact e2 _ _ (by rw [upd_ne z]; exact hb)⟩
theorem ei_keys {te : TE} {d : Addr} {od : Obj} {ks : List Nat} (h : EvS te σ H (IsV (.ref d))) (hd : H d = some (.frz od (.dK (kvT ks)))) : EvI (iKeys te) σ H (ks.map natV) := fun H1 e R r =>
  h H1 e _ fun v H2 e2 ev => ⟨d, od, ev, .inl ⟨kvT ks, (Same.trans e e2) _ _ hd, r _ H2 e2 (by
    have w := walk_keys (d := d) (o := od) (kvs := kvT ks)
    have hl : (kvT ks).length = (ks.map natV).length := by unfold kvT; rw [List.length_map, List.length_map]
    rw [hl] at w
    refine w.mono (fun G g => g _ _ ((Same.trans e e2) _ _ hd)) fun i G x G' hi _ y => ⟨y.1, ?_⟩
    obtain ⟨k, v, h1, h2⟩ := y.2
    unfold kvT at h1
    rw [List.getElem?_map] at h1 ⊢
    cases z : ks[i]? with
    | none => rw [z] at h1; cases h1
    | some n => rw [z] at h1; cases h1; rw [h2]; rfl)⟩⟩
theorem es_ixLL {i : Nat} {te : TE} {l : Addr} {ys : List V} {j : Nat} {y : V} (hv : σ[i]? = some (some (.ref l))) (hl : H l = some (.lst ys)) (he : EvS te σ H (IsV (.int (j : Int)))) (hy : ys[j]? = some y) : EvS (tOp (rIxL K) (tVar i) te) σ H (IsV y) := fun H1 e Q q =>
  ⟨.ref l, hv, he H1 e _ fun v H2 e2 ev => ⟨l, ys, (j : Int), y, rfl, ev, lst_of ((Same.trans e e2) _ _ hl), atI_nat hy, q y H2 e2 rfl⟩⟩
theorem es_dinR {ty td : TE} {d : Addr} {ks : List Nat} {k : Nat} (h1 : EvS ty σ H (IsV (natV k))) (h2 : EvS td σ H (IsV (.ref d))) (hd : Rd H d (.dK (kvT ks))) : EvS (tDIn ty td) σ H (IsV (.bl (decide (k ∈ ks)))) := fun H1 e Q q =>
  h1 H1 e _ fun v H2 e2 ev => h2 H2 (Same.trans e e2) _ fun u H3 e3 eu => by
    subst ev eu
    have e4 := Same.trans (Same.trans e e2) e3
    refine ⟨d, _, rfl, .inl ⟨kvT ks, Sum.inl (k : Int), ?_, rfl, rfl⟩, q _ _ (Same.trans e2 e3) ?_⟩
    · rcases hd with h | ⟨o, h⟩
      · exact .inl (e4 _ _ h)
      · exact .inr ⟨o, e4 _ _ h⟩
    · rw [valV_kvT]
      by_cases h : k ∈ ks
      · rw [if_pos h, decide_eq_true h]; rfl
      · rw [if_neg h, decide_eq_false h]; rfl
theorem inV_nat {k : Nat} : ∀ (ks : List Nat), inV (natV k) (ks.map natV) = decide (k ∈ ks)
  | [] => rfl
  | x :: ks => by
    show (eqV (natV x) (natV k) || inV (natV k) (ks.map natV)) = _
    rw [inV_nat ks]
    have : eqV (natV x) (natV k) = decide (k = x) := by
      show decide ((x : Int) = (k : Int)) = _
      rw [Bool.eq_iff_iff, decide_eq_true_iff, decide_eq_true_iff]
      omega
    rw [this, Bool.eq_iff_iff]
    simp
theorem es_inN {neg : Bool} {i : Nat} {te : TE} {l : Addr} {ks : List Nat} {k : Nat} (he : EvS te σ H (IsV (natV k))) (hv : σ[i]? = some (some (.ref l))) (hl : SqL K H l (ks.map natV) ∨ SqT K H l (ks.map natV)) : EvS (tOp (rIn K neg) te (tVar i)) σ H (IsV (.bl (if neg then !decide (k ∈ ks) else decide (k ∈ ks)))) := fun H1 e Q q =>
  he H1 e _ fun v H2 e2 ev => ⟨.ref l, hv, by
    subst ev
    refine ⟨l, ks.map natV, rfl, hl.imp (same_lst (Same.trans e e2)) (same_tup (Same.trans e e2)), rfl, ?_, q _ _ e2 ?_⟩
    · rw [List.all_eq_true]
      intro x hx
      obtain ⟨_, _, rfl⟩ := List.mem_map.mp hx
      rfl
    · rw [inV_nat]⟩
end
def spPieces (K : PySem.W.Frag) : Sp := fun vs H Q _ => ∃ (a : Addr) (m : Tb.M), vs = [.ref a] ∧ TbT K H a m ∧ Tab m ∧ ∀ H' q, Same H H' → TbT K H' q (partsM m m.length) → Q (.ref q) H'
theorem ok_pieces_of {f : Addr} {fd : FuncData} (F : Fun K "pieces_of" "pieces_of" st_pieces_of f fd) (T : Txt K mg) : FnOk P w K mg base CX0 6 f fd ["table"] (spPieces K) := by
  have c_check_count_table : Cl P w K mg base 5 "check_count_table" (spChkTab K) := cl_check_count_table T
  have c_reached_from : Cl P w K mg base 1 "reached_from" (spReach K) := cl_reached_from T
  refine F.ok sc_pieces_of (fun vs H Q E h => ?_) (fun cdv A outer s H vs Q E hr h => ?_)
  · obtain ⟨a, m, rfl, _⟩ := h
    rfl
  · obtain ⟨a, m, rfl, hT, t, k⟩ := h
    have n1 := t.n1
    have n24 := t.n24
    refine ⟨_, (pss_cons (ps_expr (pe_f c_check_count_table hr (by decide) rfl (pa_cons (pv 0) pa_nil))) (pss_cons (ps_set (i := 2) sc_pieces_of.nd rfl (Or.inr rfl) (pe_lc (own := [("place", 1)]) rfl sc_pieces_of.nd (pi_range1 rfl T.n_range (pa_cons (pe_callB (kcall_len (K := K)) (by rfl) T.n_len bo_len (pa_cons (pv 0) pa_nil)) pa_nil)) (blkOk_by (N := nm_pieces_of) (sc := defScope st_pieces_of) (by decide +kernel)) (fun _ _ _ _ _ => (pg_name (i := 1) sc_pieces_of.nd rfl (by first | exact Or.inl rfl | exact Or.inr rfl))) (fun _ _ _ _ _ => pts_nil) (fun _ _ _ _ _ => (pe_f c_reached_from hr (by decide) rfl (pa_cons (pv 0) (pa_cons (pv 1) pa_nil)))))) (pss_cons (ps_set (i := 3) sc_pieces_of.nd rfl (Or.inl rfl) (pe_lst pa_nil)) (pss_cons (ps_for PassesOwn.never rfl (pi_range1 rfl T.n_range (pa_cons (pe_callB (kcall_len (K := K)) (by rfl) T.n_len bo_len (pa_cons (pv 0) pa_nil)) pa_nil)) (pg_name (i := 1) sc_pieces_of.nd rfl (Or.inr rfl)) (pss_cons (ps_set (i := 4) sc_pieces_of.nd rfl (Or.inr rfl) (pe_lock (pe_lc (own := [("goal", 6)]) rfl sc_pieces_of.nd (pi_keys (pe_ix (kix_list (K := K)) (pv 2) (pv 1) (fun _ _ => rfl))) (blkOk_by (N := nm_pieces_of) (sc := defScope st_pieces_of) (by decide +kernel)) (fun _ _ _ _ _ => (pg_name (i := 6) sc_pieces_of.nd rfl (by first | exact Or.inl rfl | exact Or.inr rfl))) (fun _ _ _ _ _ => pts_one (pt_cmp (pc_din (hu_of hr) (pv 1) (pe_ix (kix_list (K := K)) (pv 2) (pv 6) (fun _ _ => rfl))) (by rfl))) (fun _ _ _ _ _ => (pv 6))))) (pss_cons (ps_setLc (i := 5) (own := [("goal", 6)]) rfl sc_pieces_of.nd rfl rfl (sw_true rfl rfl rfl (by decide +kernel)) (pi_range1 rfl T.n_range (pa_cons (pe_callB (kcall_len (K := K)) (by rfl) T.n_len bo_len (pa_cons (pv 0) pa_nil)) pa_nil)) (blkOk_by (N := nm_pieces_of) (sc := defScope st_pieces_of) (by decide +kernel)) (fun _ _ _ _ _ => (pg_name (i := 6) sc_pieces_of.nd rfl (by first | exact Or.inl rfl | exact Or.inr rfl))) (fun _ _ _ _ _ => pts_one (PW.pt (pw_or (pt_cmpR op_eq (pv 6) (pv 1) (nomark _)) (pw_or1 (pt_cmpR (kopIn (K := K)) (pv 6) (pv 4) (by rfl)))))) (fun _ _ _ _ _ => (pv 6))) (pss_one (ps_if (pt_cmpR op_eq (pe_ix (kix_list (K := K)) (pv 5) pe_int (fun _ _ => rfl)) (pv 1) (nomark _)) (pss_one (ps_expr (pe_bm PySem.F.plainAttrs_list PySem.F.slot_list_append PySem.F.type_list_append mt_append (pv 3) (pa_cons (pe_callTy (kcall_tuple (K := K)) (by rfl) T.n_tuple bo_tuple (pa_cons (pv 5) pa_nil)) pa_nil)))) pss_nil))))) (pss_one (ps_ret (pe_callTy (kcall_tuple (K := K)) (by rfl) T.n_tuple bo_tuple (pa_cons (pv 3) pa_nil)))))))), ?_⟩
    refine drop_seq (P := IsV .non) (es_fn (evc (es_vV rfl) ev0) fun H1 e Q q => ⟨a, m, rfl, tb_same e hT, t, fun H' e' => q _ _ e' rfl⟩) fun H1 e1 => ?_
    have hT1 := tb_same e1 hT
    refine asg_seq (P := fun v H' => ∃ (D : Addr) (ys : List V), v = .ref D ∧ H' D = some (.lst ys) ∧ H1 D = none ∧ ys.length = ((List.range m.length).map fun i : Nat => V.int (i : Int)).length ∧ ∀ (i : Nat) (y : V), ys[i]? = some y → RcD m i y H') (es_lcN (P := RcD m) (xs := (List.range m.length).map fun i : Nat => V.int (i : Int)) (fun x => [some (.ref a), some x, none, none, none, none, none]) (fun i y G G' e ⟨d, ks, ey, h1, h2⟩ => ⟨d, ks, ey, e _ _ h1, h2⟩) (fun i y G D zs o hD ⟨d, ks, ey, h1, h2⟩ => ⟨d, ks, ey, by rw [upd_ne (fun z => by rw [z, hD] at h1; cases h1)]; exact h1, h2⟩) (ei_range (es_lenTb rfl hT1) (by omega)) (by rw [List.length_map, List.length_range]; omega) (fun x hx H' Q q => q) (fun x hx => rfl) fun i x hx => ?_) fun v H2 e2 hv => ?_
    · have hi : i < m.length := by
        have := (List.getElem?_eq_some_iff.mp hx).1
        rwa [List.length_map, List.length_range] at this
      rw [List.getElem?_map, List.getElem?_range hi] at hx
      cases hx
      exact es_fn (evc (es_vV rfl) (evc (es_vV rfl) ev0)) fun G e Q q => ⟨a, m, i, rfl, tb_same e hT1, t, hi, fun H' d ks e' hd0 hd nd hm => q _ _ e' ⟨d, ks, rfl, hd, nd, hm⟩⟩
    obtain ⟨D, ys, rfl, gD, nD, yl, hy⟩ := hv
    rw [List.length_map, List.length_range] at yl
    have hT2 := tb_same e2 hT1
    refine ⟨Nat.zero_le _, fun L hL => ?_⟩
    have sL := new_same (o := .lst []) hL
    have nLD : L ≠ D := fun z => by rw [z, gD] at hL; cases hL
    have hL0 : H L = none := Same.free (Same.trans e1 e2) hL
    refine es_lenTb rfl (tb_same sL hT2) _ (Same.refl _) _ fun v G0 e0 ev => ⟨(m.length : Int), by rw [show v = _ from ev], by omega, by omega, for_range (lo := 0) (fun i τ G => Same H2 G ∧ ∃ ps x1 x4 x5 x6, τ = [some (.ref a), x1, some (.ref D), some (.ref L), x4, x5, x6] ∧ G L = some (.lst ps) ∧ RwA K G ps (partsM m i)) ⟨Same.trans sL e0, [], none, none, none, none, rfl, e0 _ _ upd_same, rwa_nil⟩ (fun i τ G hi p => ?_) fun τ G p => ?_⟩
    · obtain ⟨sG2, ps, x1, x4, x5, x6, rfl, gL, rw_⟩ := p
      have hi : i < m.length := by
        have : ((m.length : Int)).toNat = m.length := by omega
        omega
      have hTG := tb_same sG2 hT2
      have gDG := sG2 _ _ gD
      have hyG : ∀ {j : Nat}, j < m.length → ∃ dj ksj, ys[j]? = some (.ref dj) ∧ G dj = some (.dK (kvT ksj)) ∧ ksj.Nodup ∧ ∀ x, x ∈ ksj ↔ Tb.R m j x := fun {j} hj => by
        obtain ⟨dj, ksj, ey, h1, h2, h3⟩ := hy j _ (List.getElem?_eq_getElem (show j < ys.length by omega))
        exact ⟨dj, ksj, by rw [List.getElem?_eq_getElem (show j < ys.length by omega), ey], sG2 _ _ h1, h2, h3⟩
      obtain ⟨d, ks, hyi, gd, nd, hm⟩ := hyG hi
      have ndD : D ≠ d := fun z => by rw [z, gd] at gDG; cases gDG
      have klt : ∀ x ∈ ks, x < m.length := fun x hx => ((hm x).mp hx).lt.2
      have kl := Tb.nodup_lt nd klt
      rw [show (0 : Int) + ((i : Nat) : Int) = (i : Int) from Int.zero_add _]
      show tSeq (tAsg _ _) _ _ [some (.ref a), some (natV i), some (.ref D), some (.ref L), x4, x5, x6] G
      refine asg_seq (P := NewL G ((ks.filter fun g => rB m g i).map natV)) (es_lock gd True.intro fun od => es_imp (es_lcV (xs := ks.map natV) (b := fun v => match v with | .int g => rB m g.toNat i | _ => false) (fun v => v) (fun x => [some (.ref a), some (natV i), some (.ref D), some (.ref L), x4, x5, some x]) (ei_keys (es_ixLL (j := i) rfl (by rw [upd_ne ndD]; exact gDG) (es_vV rfl) hyi) upd_same) (by rw [List.length_map]; omega) (fun x hx H' Q q => q) (fun x hx => rfl) (fun x hx => ?_) fun x hx hb => es_vV rfl) fun v H' e p => ?_) fun v G1 e1 hv => ?_
      · obtain ⟨g, hg, rfl⟩ := List.mem_map.mp hx
        obtain ⟨dg, kg, hyg, gg, ng, hmg⟩ := hyG (klt g hg)
        refine eb_as (eb_bt (es_dinR (d := dg) (ks := kg) (k := i) (es_vV rfl) (es_ixLL (j := g) rfl (by rw [upd_ne ndD]; exact gDG) (es_vV rfl) hyg) ?_)) ?_
        · by_cases z : dg = d
          · subst z
            rw [gg] at gd
            refine .inr ⟨od, ?_⟩
            rw [upd_same, ← Option.some.inj gd]
          · exact .inl (by rw [upd_ne z]; exact gg)
        · rw [rB_mem hmg]
          show _ = rB m ((g : Int)).toNat i
          rw [Int.toNat_natCast]
      · obtain ⟨D', ev, dD', nD'⟩ := p
        refine ⟨D', ev, ?_, nD'⟩
        rw [dD', List.map_id'', List.filter_map]
        · rfl
        · intro x; rfl
      obtain ⟨B, rfl, gB, nB⟩ := hv
      have sG3 := Same.trans sG2 e1
      have hTG1 := tb_same e1 hTG
      have iffB : ∀ g, g < m.length → (decide ((g : Int) = (i : Int)) || decide (g ∈ ks.filter fun g => rB m g i)) = (decide (g = i) || (rB m i g && rB m g i)) := fun g hg => by
        rw [Bool.eq_iff_iff]
        simp only [Bool.or_eq_true, Bool.and_eq_true, decide_eq_true_eq, List.mem_filter]
        rw [hm g, ← rB_iff]
        constructor
        · rintro (h | h)
          · exact .inl (by omega)
          · exact .inr h
        · rintro (h | h)
          · exact .inl (by omega)
          · exact .inr h
      refine asg_seq (P := NewL G1 ((clsM m i).map natV)) (es_imp (es_lcV (xs := (List.range m.length).map fun j : Nat => V.int (j : Int)) (b := fun v => match v with | .int g => decide (g.toNat = i) || (rB m i g.toNat && rB m g.toNat i) | _ => false) (fun v => v) (fun x => [some (.ref a), some (natV i), some (.ref D), some (.ref L), some (.ref B), x5, some x]) (ei_range (es_lenTb rfl hTG1) (by omega)) (by rw [List.length_map, List.length_range]; omega) (fun x hx H' Q q => q) (fun x hx => rfl) (fun x hx => ?_) fun x hx hb => es_vV rfl) fun v H' e p => ?_) fun v G2 e2 hv => ?_
      · obtain ⟨g, hg, rfl⟩ := mem_rangeV hx
        refine eb_as (eb_or2 (eb_test (es_eqI (i := (g : Int)) (j := (i : Int)) (es_vV rfl) (es_vV rfl))) fun _ => eb_test (es_inN (neg := false) (k := g) (ks := ks.filter fun g => rB m g i) (es_vV rfl) rfl (.inl (lst_of gB)))) ?_
        show (decide ((g : Int) = (i : Int)) || decide (g ∈ ks.filter fun g => rB m g i)) = (decide (((g : Int)).toNat = i) || (rB m i ((g : Int)).toNat && rB m ((g : Int)).toNat i))
        rw [Int.toNat_natCast]
        exact iffB g hg
      · obtain ⟨D', ev, dD', nD'⟩ := p
        refine ⟨D', ev, ?_, nD'⟩
        rw [dD', List.map_id'', List.filter_map]
        · rfl
        · intro x; rfl
      obtain ⟨C, rfl, gC, nC⟩ := hv
      obtain ⟨x0, hx0⟩ : ∃ x0, (clsM m i).head? = some x0 := by
        have mi : i ∈ clsM m i := Tb.mem_cls.mpr ⟨hi, .inl rfl⟩
        cases q : clsM m i with
        | nil => rw [q] at mi; cases mi
        | cons x l => exact ⟨x, rfl⟩
      have gL1 := e2 _ _ (e1 _ _ gL)
      have sG4 := Same.trans sG3 e2
      have rw2 := rwa_same (Same.trans e1 e2) rw_
      have pl : ps.length ≤ 24 := by
        rw [rw_.1]
        unfold partsM Tb.firsts
        rw [List.length_map, List.length_map]
        refine Nat.le_trans (List.length_filter_le _ _) ?_
        rw [List.length_range]
        omega
      refine ifs_1 (b := decide ((x0 : Int) = (i : Int))) (eb_test (es_eqI (es_ixLL (K := K) (l := C) (ys := (clsM m i).map natV) (j := 0) (y := natV x0) rfl gC es_cV (by
        rw [List.getElem?_map, ← List.head?_eq_getElem?, hx0]; rfl)) (es_vV rfl))) (fun hc G3 e3 => ?_) fun hc G3 e3 => ?_
      · have hc : x0 = i := by have := of_decide_eq_true hc; omega
        subst hc
        have gL2 := e3 _ _ gL1
        refine ⟨.ref L, rfl, .inl ⟨rfl, _, lst_of gL2⟩, .ref C, rfl, C, _, rfl, .inl ⟨lst_of (e3 _ _ gC), fun l hl => ?_⟩⟩
        have s5 := new_same (o := .tup ((clsM m x0).map natV)) hl
        have hsq : SqT K (upd G3 l (.tup ((clsM m x0).map natV))) l (((clsM m x0).map natI).map V.int) := by rw [← natV_map]; exact tup_of upd_same
        refine ⟨L, ps, .ref l, rfl, rfl, s5 _ _ gL2, small1000 (by omega), same_mut hL (Same.trans (Same.trans sG4 e3) s5), ps ++ [.ref l], _, _, _, _, rfl, upd_same, ?_⟩
        rw [partsM_succ, if_pos hx0]
        exact rwa_mutl (s5 _ _ gL2) (rwa_snoc (rwa_same (Same.trans e3 s5) rw2) hsq)
      · have hc : ¬ x0 = i := fun z => of_decide_eq_false hc (by rw [z])
        refine ⟨Same.trans sG4 e3, ps, _, _, _, _, rfl, e3 _ _ gL1, ?_⟩
        rw [partsM_succ, if_neg (by rw [hx0]; intro z; exact hc (Option.some.inj z)), List.append_nil]
        exact rwa_same e3 rw2
    · obtain ⟨sG2, ps, x1, x4, x5, x6, rfl, gL, rw_⟩ := p
      have hn : ((m.length : Int)).toNat = m.length := by omega
      refine ⟨.ref L, rfl, L, _, rfl, .inl ⟨lst_of gL, fun q hq => k _ _ (Same.trans (Same.trans (Same.trans e1 (Same.trans e2 sG2)) (new_same hq)) (Same.refl _)) (tb_of (tup_of upd_same) ?_)⟩⟩
      have := rwa_same (new_same (o := .tup ps) hq) rw_
      rwa [hn] at this
theorem cl_pieces_of (T : Txt K mg) : Cl P w K mg base 6 "pieces_of" (spPieces K) := by
  obtain ⟨f, fd, F, hm, hb⟩ := T.f_pieces_of
  exact cl_of (ok_pieces_of F T) hm F.kp hb
theorem at_int {ns : List Int} {z : Int} {j : Nat} (e : z = (j : Int)) (h : j < ns.length) : atI (ns.map V.int) z = some (V.int (ns.getD j 0)) := by
  refine at_of e ?_
  rw [List.getElem?_map, List.getElem?_eq_getElem h, List.getD_eq_getElem?_getD, List.getElem?_eq_getElem h]
  rfl
def spDrawn : Sp := fun vs H Q _ => ∃ (S : Addr) (t : Int), vs = [.ref S, .int t] ∧ Sk H (some S) ∧ 0 < t ∧ t < 10 ^ 60 ∧ ∀ H' (r : Int), Rs (some S) H H' → 0 ≤ r → r < t → Q (.int r) H'
theorem rs_put {H H1 : Hp} {S : Addr} {x y z : Int} (r : Rs (some S) H H1) : Rs (some S) H (upd H1 S (.lst [.int x, .int y, .int z])) := ⟨r.s0, ⟨x, y, z, upd_same⟩, fun a o n e => by
  rw [upd_ne (fun q => n (by rw [q]))]
  exact r.keep a o n e⟩
theorem ok__law_scoop {f : Addr} {fd : FuncData} (F : Fun K "_law_scoop" "_law_scoop" st__law_scoop f fd) (T : Txt K mg) : FnOk P w K mg base CX0 1 f fd ["basin", "many"] spDrawn := by
  refine F.ok sc__law_scoop (fun vs H Q E h => ?_) (fun cdv A outer s H vs Q E hr h => ?_)
  · obtain ⟨S, t, rfl, _⟩ := h
    rfl
  · obtain ⟨S, t, rfl, hS, t0, t1, k⟩ := h
    have r0 : Rs (some S) H H := .of hS
    obtain ⟨a, b, c, e⟩ := hS
    have md : ∀ i : Int, 0 ≤ i % t ∧ i % t < t := fun i => ⟨Int.emod_nonneg _ (by omega), Int.emod_lt_of_pos _ t0⟩
    refine ⟨_, (pss_cons (ps_if (pt_cmpR op_gt (pe_ix (kix_list (K := K)) (pv 0) pe_int (fun _ _ => rfl)) pe_int (nomark _)) (pss_cons (ps_set (i := 2) sc__law_scoop.nd rfl (Or.inl rfl) (pe_op op_mod (pe_callTy call_int1 (by rfl) T.n_int bo_int (pa_cons (pe_ix (kix_list (K := K)) (pv 0) pe_int (fun _ _ => rfl)) pa_nil)) (pv 1))) (pss_cons (ps_asg (pe_op op_fdivW (pe_ix (kix_list (K := K)) (pv 0) pe_int (fun _ _ => rfl)) (pv 1)) (pg_sub (pv 0) pe_int set_list)) (pss_one (ps_ret (pv 2))))) pss_nil) (pss_cons (ps_asg (pe_op op_add (pe_ix (kix_list (K := K)) (pv 0) pe_int (fun _ _ => rfl)) pe_int) (pg_sub (pv 0) pe_int set_list)) (pss_cons (ps_set (i := 3) sc__law_scoop.nd rfl (Or.inl rfl) (pe_op op_mod (pe_callTy call_int1 (by rfl) T.n_int bo_int (pa_cons (pe_op op_add (pe_ix (kix_list (K := K)) (pv 0) pe_int (fun _ _ => rfl)) (pe_op op_mul pe_int (pe_ix (kix_list (K := K)) (pv 0) pe_int (fun _ _ => rfl)))) pa_nil)) pe_int)) (pss_cons (ps_set (i := 4) sc__law_scoop.nd rfl (Or.inl rfl) (pe_op op_add (pe_op op_add (pe_op op_mul (pe_op op_mod (pe_callTy call_int1 (by rfl) T.n_int bo_int (pa_cons (pe_op op_mul (pv 3) (pv 3)) pa_nil)) pe_int) pe_int) (pv 3)) (pe_op op_mul pe_int (pe_ix (kix_list (K := K)) (pv 0) pe_int (fun _ _ => rfl))))) (pss_one (ps_ret (pe_op op_mod (pe_callTy call_int1 (by rfl) T.n_int bo_int (pa_cons (pe_op op_fdivW (pv 4) pe_int) pa_nil)) (pv 1)))))))), ?_⟩
    refine ⟨.ref S, rfl, S, _, 0, .int a, rfl, rfl, lst_of e, rfl, _, _, rfl, rfl, _, rfl, ite2 (fun h1 => ?_) fun h1 => ?_⟩
    · refine ⟨.ref S, rfl, S, _, 0, .int a, rfl, rfl, lst_of e, rfl, .inl ⟨a, rfl, .int t, rfl, _, _, rfl, rfl, t0, ?_⟩⟩
      refine ⟨.ref S, rfl, S, _, 0, .int a, rfl, rfl, lst_of e, rfl, .int t, rfl, _, _, rfl, rfl, wide_div (b := 200) t0 (by omega) (by decide) (by decide), ?_⟩
      refine ⟨.ref S, rfl, S, _, 0, 0, rfl, rfl, e, rfl, ?_⟩
      exact ⟨.int (a % t), rfl, k _ _ (rs_put r0) (md a).1 (md a).2⟩
    · refine ⟨.ref S, rfl, S, _, 2, .int c, rfl, rfl, lst_of e, rfl, _, _, rfl, rfl, .ref S, rfl, S, _, 2, 2, rfl, rfl, e, rfl, ?_⟩
      refine ⟨.ref S, rfl, S, _, 1, .int b, rfl, rfl, lst_of upd_same, rfl, .ref S, rfl, S, _, 2, .int (c + 1), rfl, rfl, lst_of upd_same, rfl, _, _, rfl, rfl, .inl ⟨by decide, by decide⟩, _, _, rfl, rfl, .inl ⟨_, rfl, _, _, rfl, rfl, (by show (0 : Int) < 2305843009213693921; decide), ?_⟩⟩
      have o1 : ∀ i : Int, 0 ≤ i % 2305843009213693921 ∧ i % 2305843009213693921 < 2305843009213693921 := fun i => ⟨Int.emod_nonneg _ (by omega), Int.emod_lt_of_pos _ (by omega)⟩
      have cm : ∀ i j : Int, CMul (i % 2305843009213693921) j := fun i j => .inl ⟨by have := o1 i; omega, by have := o1 i; omega⟩
      refine ⟨_, rfl, _, rfl, _, _, rfl, rfl, cm _ _, .inl ⟨_, rfl, _, _, rfl, rfl, (by show (0 : Int) < 2305843009213693951; decide), _, _, rfl, rfl, .inr ⟨by decide, by decide⟩, _, rfl, _, _, rfl, rfl, .ref S, rfl, S, _, 2, .int (c + 1), rfl, rfl, lst_of upd_same, rfl, _, _, rfl, rfl, .inl ⟨by decide, by decide⟩, _, _, rfl, rfl, ?_⟩⟩
      refine ⟨_, rfl, _, _, rfl, rfl, ⟨by decide, by decide +kernel⟩, .inl ⟨_, rfl, .int t, rfl, _, _, rfl, rfl, t0, ?_⟩⟩
      exact k _ _ (rs_put r0) (md _).1 (md _).2
theorem cl__law_scoop (T : Txt K mg) : Cl P w K mg base 1 "_law_scoop" spDrawn := by
  obtain ⟨f, fd, F, hm, hb⟩ := T.f__law_scoop
  exact cl_of (ok__law_scoop F T) hm F.kp hb
def spLiked (K : PySem.W.Frag) : Sp := fun vs H Q _ => ∃ (S l : Addr) (xs : List V), vs = [.ref S, .ref l] ∧ Sk H (some S) ∧ S ≠ l ∧ SqL K H l xs ∧ xs ≠ [] ∧ xs.length ≤ 100000 ∧ ∀ H' (j : Nat) v, Rs (some S) H H' → xs[j]? = some v → Q v H'
theorem ok__law_taken {f : Addr} {fd : FuncData} (F : Fun K "_law_taken" "_law_taken" st__law_taken f fd) (T : Txt K mg) : FnOk P w K mg base CX0 2 f fd ["basin", "items"] (spLiked K) := by
  have c__law_scoop : Cl P w K mg base 1 "_law_scoop" spDrawn := cl__law_scoop T
  refine F.ok sc__law_taken (fun vs H Q E h => ?_) (fun cdv A outer s H vs Q E hr h => ?_)
  · obtain ⟨S, l, xs, rfl, _⟩ := h
    rfl
  · obtain ⟨S, l, xs, rfl, hS, hn, hl, he, hz, k⟩ := h
    have hp : 0 < xs.length := List.length_pos_iff.mpr he
    refine ⟨_, (pss_one (ps_ret (pe_ix (kix_list (K := K)) (pv 1) (pe_f c__law_scoop hr (by decide) rfl (pa_cons (pv 0) (pa_cons (pe_callB (kcall_len (K := K)) (by rfl) T.n_len bo_len (pa_cons (pv 1) pa_nil)) pa_nil))) (fun _ _ => rfl)))), ?_⟩
    refine ⟨.ref l, rfl, .ref S, rfl, .ref l, rfl, l, xs, rfl, .inl hl, S, _, rfl, hS, by omega, by omega, fun H1 r r1 a0 a1 => ?_⟩
    have hl1 : SqL K H1 l xs := r1.lst (fun q => hn (Option.some.inj q)) hl
    obtain ⟨j, rfl⟩ : ∃ j : Nat, r = (j : Int) := ⟨r.toNat, by omega⟩
    have hj : j < xs.length := by omega
    exact ⟨l, xs, _, _, rfl, rfl, hl1, atI_nat (List.getElem?_eq_getElem hj), k _ j _ r1 (List.getElem?_eq_getElem hj)⟩
theorem cl__law_taken (T : Txt K mg) : Cl P w K mg base 2 "_law_taken" (spLiked K) := by
  obtain ⟨f, fd, F, hm, hb⟩ := T.f__law_taken
  exact cl_of (ok__law_taken F T) hm F.kp hb
def Sack3 (H : Hp) (S : Addr) : Prop := ∃ x y z : Int, H S = some (.lst [.int x, .int y, .int z])
def spJar (K : PySem.W.Frag) : Sp := fun vs H Q _ => ∃ (a : Addr) (ns : List Int) (k : Int), vs = [.ref a, .int k] ∧ SqL K H a (ns.map V.int) ∧ 0 ≤ k ∧ ∀ H' S, Same H H' → H S = none → Sack3 H' S → Q (.ref S) H'
theorem ok__law_basin {f : Addr} {fd : FuncData} (F : Fun K "_law_basin" "_law_basin" st__law_basin f fd) (T : Txt K mg) : FnOk P w K mg base CX0 1 f fd ["script", "spot"] (spJar K) := by
  refine F.ok sc__law_basin (fun vs H Q E h => ?_) (fun cdv A outer s H vs Q E hr h => ?_)
  · obtain ⟨a, ns, m, rfl, _⟩ := h
    rfl
  · obtain ⟨a, ns, m, rfl, h, m0, k⟩ := h
    refine ⟨_, (pss_cons (ps_set (i := 2) sc__law_basin.nd rfl (Or.inl rfl) (pe_ifExp (pt_cmpR op_lt (pv 1) (pe_callB (kcall_len (K := K)) (by rfl) T.n_len bo_len (pa_cons (pv 0) pa_nil)) (nomark _)) (pe_callTy call_int1 (by rfl) T.n_int bo_int (pa_cons (pe_ix (kix_list (K := K)) (pv 0) (pv 1) (fun _ _ => rfl)) pa_nil)) (pe_op op_add (pe_op op_add (pe_op op_mul pe_int (pv 1)) pe_int) (pe_op op_mod (pe_callTy call_int1 (by rfl) T.n_int bo_int (pa_cons (pe_callB (kcr_sum (K := K) rfl) (by rfl) T.n_sum bo_sum (pa_cons (pe_slice (ksl_list (K := K)) (pv 0) po_none (po_some pe_int)) pa_nil)) pa_nil)) pe_int)))) (pss_cons (ps_set (i := 3) sc__law_basin.nd rfl (Or.inl rfl) (pe_op op_mod (pe_callTy call_int1 (by rfl) T.n_int bo_int (pa_cons (pe_callB call_abs (by rfl) T.n_abs bo_abs (pa_cons (pv 2) pa_nil)) pa_nil)) (pe_op op_powG (pe_op op_powG pe_int pe_int) pe_int))) (pss_cons (ps_set (i := 4) sc__law_basin.nd rfl (Or.inl rfl) (pe_op op_mod (pe_callTy call_int1 (by rfl) T.n_int bo_int (pa_cons (pe_op op_add (pe_op op_add (pe_op op_add (pe_op op_mul (pe_op op_mod (pv 3) pe_int) pe_int) (pe_op op_mul pe_int (pv 1))) (pe_op op_mul pe_int (pe_callTy call_int1 (by rfl) T.n_int bo_int (pa_cons (pe_cmpR op_lt (pv 2) pe_int (nomark _)) pa_nil)))) pe_int) pa_nil)) pe_int)) (pss_one (ps_ret (pe_lst (pa_cons (pe_callB (call_max2 rfl) (by rfl) T.n_max bo_max (pa_cons pe_int (pa_cons (pe_op op_sub (pv 3) (pe_op op_powG pe_int pe_int)) pa_nil))) (pa_cons (pv 4) (pa_cons pe_int pa_nil))))))))), ?_⟩
    refine asg_jn (fun v G => ∃ c : Int, v = .int c ∧ Same H G) (fun Q' q' => ⟨.int m, rfl, .ref a, rfl, a, _, rfl, .inl h, _, _, rfl, rfl, _, rfl, ite2 (fun h1 => ?_) fun h1 => ?_⟩) fun v G hv => ?_
    · have h1 : m < ((ns.map V.int).length : Nat) := of_decide_eq_true h1
      rw [List.length_map] at h1
      exact ⟨.ref a, rfl, .int m, rfl, a, _, _, _, rfl, rfl, h, at_int (j := m.toNat) (by omega) (by omega), .inl ⟨_, rfl, q' _ _ ⟨_, rfl, Same.refl _⟩⟩⟩
    · refine ⟨.int m, rfl, _, _, rfl, rfl, .inl ⟨by decide, by decide⟩, _, _, rfl, rfl, ?_⟩
      refine ⟨.ref a, rfl, nopart ⟨1, rfl, a, _, rfl, h, fun p hp => ⟨p, cutI ns none (some 1), rfl, lst_of (by rw [upd_same, cut_map]), .inl ⟨_, rfl, _, _, rfl, rfl, (by show (0 : Int) < 1000151; decide), _, _, rfl, rfl, q' _ _ ⟨_, rfl, new_same hp⟩⟩⟩⟩⟩
    · obtain ⟨cell, rfl, e0⟩ := hv
      refine ⟨.int cell, rfl, cell, rfl, .inl ⟨_, rfl, _, _, rfl, rfl, ⟨by decide, by decide +kernel⟩, _, _, rfl, rfl, ⟨by decide, by decide +kernel⟩, _, _, rfl, rfl, (by show (0 : Int) < ((10 : Int) ^ (58 : Int).toNat) ^ (8 : Int).toNat; decide +kernel), ?_⟩⟩
      refine ⟨_, rfl, _, _, rfl, rfl, (by show (0 : Int) < 2305843009213693907; decide), _, _, rfl, rfl, .inr ⟨by decide, by decide⟩, .int m, rfl, _, _, rfl, rfl, .inl ⟨by decide, by decide⟩, _, _, rfl, rfl, .int cell, rfl, _, _, rfl, rfl, .inr ⟨_, rfl, _, _, rfl, rfl, .inl ⟨by decide, by decide⟩, _, _, rfl, rfl, _, _, rfl, rfl, .inl ⟨_, rfl, _, _, rfl, rfl, (by show (0 : Int) < 2305843009213693951; decide), ?_⟩⟩⟩
      refine ⟨_, rfl, _, _, rfl, rfl, ⟨by decide, by decide +kernel⟩, _, _, rfl, rfl, _, _, rfl, ?_⟩
      exact ⟨_, rfl, by show 3 ≤ sizeLine; decide, fun S hS => k _ _ (Same.trans e0 (new_same hS)) (Same.free e0 hS) ⟨_, _, _, upd_same⟩⟩
theorem cl__law_basin (T : Txt K mg) : Cl P w K mg base 1 "_law_basin" (spJar K) := by
  obtain ⟨f, fd, F, hm, hb⟩ := T.f__law_basin
  exact cl_of (ok__law_basin F T) hm F.kp hb
/-! the greatest common divisor, as the law finds it -/
def spShared : Sp := fun vs H Q _ => ∃ x y : Int, vs = [.int x, .int y] ∧ 0 ≤ x ∧ 0 ≤ y ∧ ∀ g, 0 ≤ g → (∀ h : Int, h ∣ g ↔ h ∣ x ∧ h ∣ y) → Q (.int g) H
theorem dvd_mod_iff {h x y : Int} (hy : h ∣ y) : h ∣ x % y ↔ h ∣ x := by
  have e := Int.emod_add_mul_ediv x y
  constructor
  · intro g
    rw [← e]
    exact Int.dvd_add g (Int.dvd_trans hy (Int.dvd_mul_right y _))
  · intro g
    have : x % y = x - y * (x / y) := by omega
    rw [this]
    exact Int.dvd_sub g (Int.dvd_trans hy (Int.dvd_mul_right y _))
theorem ok__law_shared {f : Addr} {fd : FuncData} (F : Fun K "_law_shared" "_law_shared" st__law_shared f fd) (T : Txt K mg) : FnOk P w K mg base CX0 1 f fd ["one", "other"] spShared := by
  refine F.ok sc__law_shared (fun vs H Q E h => ?_) (fun cdv A outer s H vs Q E hr h => ?_)
  · obtain ⟨x, y, rfl, _⟩ := h
    rfl
  · obtain ⟨x0, y0, rfl, hx0, hy0, k⟩ := h
    refine ⟨_, (pss_cons (ps_while PassesOwn.never (pt_cmpR op_gt (pv 1) pe_int (nomark _)) (pss_one (ps_par (i := 0) (j := 1) rfl sc__law_shared.nd rfl rfl (by decide) rfl rfl (pa_cons (pv 1) (pa_cons (pe_op op_mod (pe_callTy call_int1 (by rfl) T.n_int bo_int (pa_cons (pv 0) pa_nil)) (pv 1)) pa_nil)) (by with_unfolding_all rfl)))) (pss_one (ps_ret (pv 0)))), ?_⟩
    refine ⟨fun M τ G => G = H ∧ ∃ x y : Int, τ = [some (.int x), some (.int y)] ∧ 0 ≤ x ∧ 0 ≤ y ∧ (∀ h : Int, (h ∣ x ∧ h ∣ y) ↔ (h ∣ x0 ∧ h ∣ y0)) ∧ M = y.toNat, ⟨_, rfl, x0, y0, rfl, hx0, hy0, fun h => Iff.rfl, rfl⟩, ?_⟩
    rintro M τ G ⟨rfl, x, y, rfl, hx, hy, hd, rfl⟩
    refine ⟨.int y, rfl, y, 0, rfl, rfl, _, rfl, ?_⟩
    by_cases q : 0 < y
    · rw [decide_eq_true q]
      refine iteT ⟨fun τ' G' => ∃ M', M' < y.toNat ∧ G' = G ∧ ∃ x y : Int, τ' = [some (.int x), some (.int y)] ∧ 0 ≤ x ∧ 0 ≤ y ∧ (∀ h : Int, (h ∣ x ∧ h ∣ y) ↔ (h ∣ x0 ∧ h ∣ y0)) ∧ M' = y.toNat, fun _ _ h => h, ?_⟩
      have m0 := Int.emod_nonneg x (show y ≠ 0 by omega)
      have m1 := Int.emod_lt_of_pos x q
      refine ⟨.int y, rfl, .int x, rfl, .inl ⟨x, rfl, .int y, rfl, x, y, rfl, rfl, q, _, _, rfl, (x % y).toNat, by omega, rfl, y, x % y, rfl, by omega, m0, fun h => ?_, rfl⟩⟩
      rw [← hd h]
      exact ⟨fun z => ⟨(dvd_mod_iff z.1).mp z.2, z.1⟩, fun z => ⟨z.2, (dvd_mod_iff z.2).mpr z.1⟩⟩
    · rw [decide_eq_false q]
      have : y = 0 := by omega
      subst this
      exact iteF ⟨.int x, rfl, k x hx fun h => (show h ∣ x ↔ h ∣ x ∧ h ∣ (0 : Int) from ⟨fun z => ⟨z, Int.dvd_zero h⟩, fun z => z.1⟩).trans (hd h)⟩
theorem cl__law_shared (T : Txt K mg) : Cl P w K mg base 1 "_law_shared" spShared := by
  obtain ⟨f, fd, F, hm, hb⟩ := T.f__law_shared
  exact cl_of (ok__law_shared F T) hm F.kp hb
/-! the table in another sequence -/
def cutT (m : Tb.M) (os : List Nat) : Tb.M := os.map fun i => os.map fun j => Tb.en m i j
def spCut (K : PySem.W.Frag) : Sp := fun vs H Q _ => ∃ (a l : Addr) (m : Tb.M) (os : List Nat), vs = [.ref a, .ref l] ∧ TbT K H a m ∧ Tab m ∧ SqL K H l (os.map natV) ∧ os.length ≤ 24 ∧ (∀ x ∈ os, x < m.length) ∧ ∀ H' q, Same H H' → TbT K H' q (cutT m os) → Q (.ref q) H'
section
variable {σ : L2.St} {H : Hp}
/-- tuple([a row for x in xs]) -/
theorem es_rowsT {wi : TI} {g : TG} {te : TE} {vs : List Nat} {os : List Nat} (f : Nat → List Int) (τ : V → L2.St) (hi : EvI wi σ H (os.map natV)) (hz : os.length ≤ 1000) (hg : ∀ x ∈ os, ∀ H' Q, Q (τ (natV x)) H' → g (natV x) (wipe σ vs) H' Q) (hw : ∀ x ∈ os, wipe (τ (natV x)) vs = wipe σ vs)
    (he : ∀ x ∈ os, EvS te (τ (natV x)) H (IsI K (f x))) : EvS (tCB (rTupOf K) (tCons (tLc wi g tYes te vs) tNil)) σ H (fun v H' => ∃ q, v = .ref q ∧ TbT K H' q (os.map f)) := es_cb1 (P := fun v H' => ∃ (D : Addr) (ys : List V), v = .ref D ∧ H' D = some (.lst ys) ∧ H D = none ∧ ys.length = (os.map natV).length ∧ ∀ (i : Nat) (y : V), ys[i]? = some y → ∀ x, os[i]? = some x → ∃ b, y = .ref b ∧ SqT K H' b ((f x).map V.int))
  (es_lcN (P := fun i y H => ∀ x, os[i]? = some x → ∃ b, y = .ref b ∧ SqT K H b ((f x).map V.int)) τ (fun i y G G1 e h x hx => let ⟨b, eb, hb⟩ := h x hx; ⟨b, eb, same_tup e hb⟩) (fun i y G D zs o d h x hx => let ⟨b, eb, hb⟩ := h x hx; ⟨b, eb, tup_mutl d hb⟩) hi (by rw [List.length_map]; omega) (fun x hx => by obtain ⟨y, hy, rfl⟩ := List.mem_map.mp hx; exact hg y hy) (fun x hx => by obtain ⟨y, hy, rfl⟩ := List.mem_map.mp hx; exact hw y hy)
    (fun i x hx => by
      rw [List.getElem?_map] at hx
      cases z : os[i]? with
      | none => rw [z] at hx; cases hx
      | some y =>
        rw [z] at hx
        cases hx
        exact es_imp (he y (List.mem_of_getElem? z)) fun v H' e ⟨b, ev, hb⟩ x' hx' => by cases hx'; exact ⟨b, ev, hb⟩)) fun v H2 e2 ⟨D, ys, ev, dD, nD, yl, hy⟩ Q q => by
    subst ev
    refine ⟨D, ys, rfl, .inl ⟨lst_of dD, fun l hl => q _ _ (new_same hl) ⟨l, rfl, ys, tup_of upd_same, by rw [yl, List.length_map, List.length_map], fun i p r hp hr => ?_⟩⟩⟩
    rw [List.getElem?_map] at hr
    cases z : os[i]? with
    | none => rw [z] at hr; cases hr
    | some x =>
      rw [z] at hr
      cases hr
      obtain ⟨b, eb, hb⟩ := hy i p hp x z
      exact ⟨b, eb, same_tup (new_same hl) hb⟩
theorem ei_natL {te : TE} {os : List Nat} (h : EvS te σ H (fun v H' => ∃ a, v = .ref a ∧ SqL K H' a (os.map natV))) : EvI (iList K te) σ H (os.map natV) := ei_list h
end
theorem ok__law_cut {f : Addr} {fd : FuncData} (F : Fun K "_law_cut" "_law_cut" st__law_cut f fd) (T : Txt K mg) : FnOk P w K mg base CX0 1 f fd ["table", "places"] (spCut K) := by
  refine F.ok sc__law_cut (fun vs H Q E h => ?_) (fun cdv A outer s H vs Q E hr h => ?_)
  · obtain ⟨a, l, m, os, rfl, _⟩ := h
    rfl
  · obtain ⟨a, l, m, os, rfl, hT, t, hl, hz, hlt, k⟩ := h
    refine ⟨_, (pss_one (ps_ret (pe_callTy (kcall_tuple (K := K)) (by rfl) T.n_tuple bo_tuple (pa_cons (pe_lc (own := [("at", 2)]) rfl sc__law_cut.nd (kpi_list (K := K) (pv 1)) (blkOk_by (N := nm__law_cut) (sc := defScope st__law_cut) (by decide +kernel)) (fun _ _ _ _ _ => (pg_name (i := 2) sc__law_cut.nd rfl (by first | exact Or.inl rfl | exact Or.inr rfl))) (fun _ _ _ _ _ => pts_nil) (fun _ _ _ _ _ => (pe_callTy (kcall_tuple (K := K)) (by rfl) T.n_tuple bo_tuple (pa_cons (pe_lc (own := [("to", 3)]) rfl sc__law_cut.nd (kpi_list (K := K) (pv 1)) (blkOk_by (N := nm__law_cut) (sc := lcScopes (defBody st__law_cut)) (by decide +kernel)) (fun _ _ _ _ _ => (pg_name (i := 3) sc__law_cut.nd rfl (by first | exact Or.inl rfl | exact Or.inr rfl))) (fun _ _ _ _ _ => pts_nil) (fun _ _ _ _ _ => (pe_ix (kix_tup (K := K)) (pe_ix (kix_tup (K := K)) (pv 0) (pv 2) (fun _ _ => rfl)) (pv 3) (fun _ _ => rfl)))) pa_nil)))) pa_nil)))), ?_⟩
    refine es_ret (P := fun v H' => ∃ q, v = .ref q ∧ TbT K H' q (cutT m os)) (es_rowsT (fun i => os.map fun j => Tb.en m i j) (fun x => [some (.ref a), some (.ref l), some x, none]) (ei_list (es_seqL rfl hl)) (by omega) (fun x hx H' Q q => q) (fun x hx => rfl) fun x hx => ?_) fun v H' e ⟨q, ev, hq⟩ => ev ▸ k H' q e hq
    refine es_imp (es_tupL (es_lcV (xs := os.map natV) (b := fun _ => true) (fN fun j => .int (Tb.en m x j)) (fun y => [some (.ref a), some (.ref l), some (natV x), some y]) (ei_list (es_seqL rfl hl)) (by rw [List.length_map]; omega) (fun y hy H' Q q => q) (fun y hy => rfl) (fun y hy => eb_yes) fun y hy _ => ?_)) fun v H' e ⟨p, ev, hp⟩ => ⟨p, ev, ?_⟩
    · obtain ⟨j, hj, rfl⟩ := List.mem_map.mp hy
      exact es_ten rfl hT t (hlt x hx) (hlt j hj) (es_vV rfl) (es_vV rfl)
    · rw [List.filter_eq_self.mpr fun _ _ => rfl, List.map_map] at hp
      rw [List.map_map]
      exact hp
theorem cl__law_cut (T : Txt K mg) : Cl P w K mg base 1 "_law_cut" (spCut K) := by
  obtain ⟨f, fd, F, hm, hb⟩ := T.f__law_cut
  exact cl_of (ok__law_cut F T) hm F.kp hb
/-! what is reached, as the law finds it -/
noncomputable def rsM (m : Tb.M) (i : Nat) : List Nat := (List.range m.length).filter (rB m i)
theorem mem_rsM {m : Tb.M} {i j : Nat} : j ∈ rsM m i ↔ Tb.R m i j := by
  unfold rsM
  rw [List.mem_filter, List.mem_range, rB_iff]
  exact ⟨fun h => h.2, fun h => ⟨h.lt.2, h⟩⟩
theorem rsM_asc {m : Tb.M} {i : Nat} : (rsM m i).Pairwise (· < ·) := List.Pairwise.filter _ List.pairwise_lt_range
def sucs (m : Tb.M) (x : Nat) : List Nat := (List.range m.length).filter fun j => decide (0 < Tb.en m x j)
theorem mem_sucs {m : Tb.M} {x j : Nat} (hx : x < m.length) : j ∈ sucs m x ↔ Tb.E m x j := by
  unfold sucs
  rw [List.mem_filter, List.mem_range, decide_eq_true_iff]
  exact ⟨fun h => ⟨hx, h.1, h.2⟩, fun h => ⟨h.2.1, h.2.2⟩⟩
theorem sucs_len {m : Tb.M} {x : Nat} : (sucs m x).length ≤ m.length := by
  unfold sucs
  refine Nat.le_trans (List.length_filter_le _ _) ?_
  rw [List.length_range]
  exact Nat.le_refl _
/-- rows of places at ys, by place, none of them at F -/
def RlA (K : PySem.W.Frag) (G : Hp) (F : Addr) (m : Tb.M) (ys : List V) : Prop := ∀ (i : Nat) (y : V), ys[i]? = some y → ∃ l, y = .ref l ∧ l ≠ F ∧ G l = some (.lst ((rsM m i).map natV))
theorem rla_same {G G1 : Hp} {F : Addr} {m : Tb.M} {ys : List V} (e : Same G G1) (h : RlA K G F m ys) : RlA K G1 F m ys := fun i y hy => let ⟨l, h1, h2, h3⟩ := h i y hy; ⟨l, h1, h2, e _ _ h3⟩
section
variable {σ : L2.St} {H : Hp}
theorem es_neLst {ta tb : TE} {ns ms : List Int} (ha : EvS ta σ H (fun v H' => ∃ a, v = .ref a ∧ SqL K H' a (ns.map V.int))) (hb : EvS tb σ H (fun v H' => ∃ a, v = .ref a ∧ SqL K H' a (ms.map V.int))) : EvS (tOp (rNeD K) ta tb) σ H (IsV (.bl (!decide (ns = ms)))) := fun H1 e Q q =>
  ha H1 e _ fun v H2 e2 ⟨a, ev, h1⟩ => hb H2 (Same.trans e e2) _ fun u H3 e3 ⟨b, eu, h2⟩ => by
    subst ev eu
    exact ⟨_, _, dp_list (same_lst e3 h1), dp_list h2, shaped_list ns, shaped_list ms, q _ _ (Same.trans e2 e3) (by rw [eqv_list])⟩
theorem es_lst0 : EvS (tLst tNil) σ H (fun v H' => ∃ a, v = .ref a ∧ SqL K H' a (([] : List Int).map V.int)) := fun H1 e Q q =>
  ⟨Nat.zero_le _, fun p hp => q _ _ (new_same hp) ⟨p, rfl, lst_of upd_same⟩⟩
/-- [to for to in range(size) if table[x][to] > 0] -/
theorem es_sucs {i j : Nat} {ta : TE} {a : Addr} {m : Tb.M} {x : Nat} {vs : List Nat} {g : TG} (τ : V → L2.St) (hsz : EvS ta σ H (IsV (.int (m.length : Int)))) (hT : TbT K H a m) (t : Tab m) (hx : x < m.length)
    (hg : ∀ y H' Q, Q (τ y) H' → g y (wipe σ vs) H' Q) (hw : ∀ y, wipe (τ y) vs = wipe σ vs) (h0 : ∀ y, (τ y)[0]? = some (some (.ref a))) (hi : ∀ y, (τ y)[i]? = some (some (natV x))) (hj : ∀ y, (τ y)[j]? = some (some y)) :
    EvS (tLc (iRng1 (tCons ta tNil)) g (tTest (tOp (rI0 fun i j => V.bl (decide (j < i))) (tOp (rIxT K) (tOp (rIxT K) (tVar 0) (tVar i)) (tVar j)) (tC (.int 0)))) (tVar j) vs) σ H (NewL H ((sucs m x).map natV)) := by
  have n24 := t.n24
  refine es_imp (es_lcV (xs := (List.range m.length).map fun k : Nat => V.int (k : Int)) (b := fun v => match v with | .int k => decide (0 < Tb.en m x k.toNat) | _ => false) (fun v => v) τ (ei_range hsz (by omega)) (by rw [List.length_map, List.length_range]; omega) (fun y _ H' Q q => hg y H' Q q) (fun y _ => hw y) (fun y hy => ?_) fun y _ _ => es_vV (hj y)) fun v H' e ⟨D, ev, dD, nD⟩ => ⟨D, ev, ?_, nD⟩
  · obtain ⟨k, hk, rfl⟩ := mem_rangeV hy
    refine eb_as (eb_test (es_i0 (i := Tb.en m x k) (j := 0) (es_ten (h0 _) hT t hx hk (es_vV (hi _)) (es_vV (hj _))) es_cV)) ?_
    show decide (0 < Tb.en m x k) = decide (0 < Tb.en m x ((k : Int)).toNat)
    rw [Int.toNat_natCast]
  · rw [dD, List.map_id'', List.filter_map]
    · rfl
    · intro x; rfl
end
def spReachL (K : PySem.W.Frag) : Sp := fun vs H Q _ => ∃ (a : Addr) (m : Tb.M), vs = [.ref a] ∧ TbT K H a m ∧ Tab m ∧ ∀ H' F ys, Same H H' → H F = none → H' F = some (.lst ys) → ys.length = m.length → RlA K H' F m ys → Q (.ref F) H'
structure Lst (m : Tb.M) (i : Nat) (ks ws : List Nat) : Prop where
  nd : ks.Nodup
  rk : ∀ x ∈ ks, Tb.R m i x
  rw : ∀ x ∈ ws, Tb.R m i x
  c0 : ∀ j, Tb.E m i j → j ∈ ks ∨ j ∈ ws
  c1 : ∀ x ∈ ks, ∀ j, Tb.E m x j → j ∈ ks ∨ j ∈ ws
theorem Lst.drop {m : Tb.M} {i x : Nat} {ks ws : List Nat} (s : Lst m i ks (ws ++ [x])) (h : x ∈ ks) : Lst m i ks ws := by
  have : ∀ j, j ∈ ks ∨ j ∈ ws ++ [x] → j ∈ ks ∨ j ∈ ws := fun j hj => hj.elim .inl fun hj => (List.mem_append.mp hj).elim .inr fun e => .inl (by rw [List.mem_singleton.mp e]; exact h)
  exact ⟨s.nd, s.rk, fun y hy => s.rw y (List.mem_append_left _ hy), fun j e => this j (s.c0 j e), fun y hy j e => this j (s.c1 y hy j e)⟩
theorem Lst.take {m : Tb.M} {i x : Nat} {ks ws : List Nat} (s : Lst m i ks (ws ++ [x])) (hx : x < m.length) (h : x ∉ ks) : Lst m i (ks ++ [x]) (ws ++ sucs m x) := by
  have rx := s.rw x (by simp)
  have up : ∀ j, j ∈ ks ∨ j ∈ ws ++ [x] → j ∈ ks ++ [x] ∨ j ∈ ws ++ sucs m x := fun j hj => hj.elim (fun q => .inl (List.mem_append_left _ q)) fun hj => (List.mem_append.mp hj).elim (fun q => .inr (List.mem_append_left _ q)) fun e => .inl (List.mem_append_right _ e)
  refine ⟨?_, fun y hy => ?_, fun y hy => ?_, fun j e => up j (s.c0 j e), fun y hy j e => ?_⟩
  · rw [List.nodup_append]
    exact ⟨s.nd, by simp, fun a ha b hb => by rw [List.mem_singleton.mp hb]; exact fun q => h (q ▸ ha)⟩
  · rcases List.mem_append.mp hy with hy | hy
    · exact s.rk y hy
    · rw [List.mem_singleton.mp hy]; exact rx
  · rcases List.mem_append.mp hy with hy | hy
    · exact s.rw y (List.mem_append_left _ hy)
    · exact rx.trans (.of ((mem_sucs hx).mp hy))
  · rcases List.mem_append.mp hy with hy | hy
    · exact up j (s.c1 y hy j e)
    · rw [List.mem_singleton.mp hy] at e
      exact .inr (List.mem_append_right _ ((mem_sucs hx).mpr e))
theorem Lst.all {m : Tb.M} {i : Nat} {ks : List Nat} (s : Lst m i ks []) : ∀ j, j ∈ ks ↔ Tb.R m i j := fun j => by
  have no : ∀ {j}, j ∈ ks ∨ j ∈ ([] : List Nat) → j ∈ ks := fun h => h.elim id fun q => absurd q (List.not_mem_nil)
  refine ⟨s.rk j, fun ⟨l, hl, hp⟩ => closed_reach (i := i) (fun x hx j e => ?_) (.inl rfl) hl hp⟩
  rcases hx with rfl | hx
  · exact no (s.c0 j e)
  · exact no (s.c1 x hx j e)
def LrW (a F : Addr) (n : Nat) (i : Nat) (d w : Addr) (G0 : Hp) (m : Tb.M) (M : Nat) (τ : L2.St) (G : Hp) : Prop := ∃ ks ws x6, τ = [some (.ref a), some (.int (n : Int)), some (.ref F), some (natV i), some (.ref d), some (.ref w), x6, none] ∧ Same G0 G ∧ G d = some (.dK (kvT ks)) ∧ G w = some (.lst (ws.map natV)) ∧ Lst m i ks ws ∧ ws.length + 25 * (m.length - ks.length) ≤ 700 ∧ M = ws.length + 25 * (m.length - ks.length)
theorem asc_of {ys : List Int} {ks zs : List Nat} (p : ys.Perm (ks.map natI)) (s : ys.Pairwise (· ≤ ·)) (nd : ks.Nodup) (h : ∀ j, j ∈ ks ↔ j ∈ zs) (hz : zs.Pairwise (· < ·)) : ys = zs.map natI := by
  have ndm : (ks.map natI).Nodup := List.Pairwise.map _ (fun a b hab q => hab (Int.ofNat.inj q)) nd
  have ndy : ys.Nodup := p.nodup_iff.mpr ndm
  refine asc_ext ?_ (List.Pairwise.map _ (fun a b (hab : a < b) => by show (a : Int) < (b : Int); omega) hz) fun k => ?_
  · refine List.Pairwise.imp₂ (fun a b (h1 : a ≤ b) (h2 : a ≠ b) => by omega) s ndy
  · rw [p.mem_iff, List.mem_map, List.mem_map]
    exact ⟨fun ⟨j, hj, e⟩ => ⟨j, (h j).mp hj, e⟩, fun ⟨j, hj, e⟩ => ⟨j, (h j).mpr hj, e⟩⟩
theorem ok__law_reached {f : Addr} {fd : FuncData} (F : Fun K "_law_reached" "_law_reached" st__law_reached f fd) (T : Txt K mg) : FnOk P w K mg base CX0 1 f fd ["table"] (spReachL K) := by
  refine F.ok sc__law_reached (fun vs H Q E h => ?_) (fun cdv A outer s H vs Q E hr h => ?_)
  · obtain ⟨a, m, rfl, _⟩ := h
    rfl
  · obtain ⟨a, m, rfl, hT, t, k⟩ := h
    have n1 := t.n1
    have n24 := t.n24
    refine ⟨_, (pss_cons (ps_set (i := 1) sc__law_reached.nd rfl (Or.inl rfl) (pe_callB (kcall_len (K := K)) (by rfl) T.n_len bo_len (pa_cons (pv 0) pa_nil))) (pss_cons (ps_set (i := 2) sc__law_reached.nd rfl (Or.inl rfl) (pe_lst pa_nil)) (pss_cons (ps_for PassesOwn.never rfl (pi_range1 rfl T.n_range (pa_cons (pv 1) pa_nil)) (pg_name (i := 3) sc__law_reached.nd rfl (Or.inr rfl)) (pss_cons (ps_par (i := 4) (j := 5) rfl sc__law_reached.nd rfl rfl (by decide) rfl rfl (pa_cons pe_dnewK (pa_cons (pe_lc (own := [("to", 7)]) rfl sc__law_reached.nd (pi_range1 rfl T.n_range (pa_cons (pv 1) pa_nil)) (blkOk_by (N := nm__law_reached) (sc := defScope st__law_reached) (by decide +kernel)) (fun _ _ _ _ _ => (pg_name (i := 7) sc__law_reached.nd rfl (by first | exact Or.inl rfl | exact Or.inr rfl))) (fun _ _ _ _ _ => pts_one (pt_cmpR op_gt (pe_ix (kix_tup (K := K)) (pe_ix (kix_tup (K := K)) (pv 0) (pv 3) (fun _ _ => rfl)) (pv 7) (fun _ _ => rfl)) pe_int (nomark _))) (fun _ _ _ _ _ => (pv 7))) pa_nil)) (by with_unfolding_all rfl)) (pss_cons (ps_while PassesOwn.never (pt_cmpR (kop_neD (K := K) hr.units) (pv 5) (pe_lst pa_nil) (nomark _)) (pss_cons (ps_set (i := 6) sc__law_reached.nd rfl (Or.inr rfl) (pe_bm0 PySem.F.plainAttrs_list PySem.F.slot_list_pop PySem.F.type_list_pop mt_pop (pv 5))) (pss_one (ps_if (pt_cmp (pc_dnotin (hu_of hr) (pv 6) (pv 4)) (by rfl)) (pss_cons (ps_asg pe_bl (pg_sub (pv 4) (pv 6) (set_dict (hu_of hr)))) (pss_one (ps_expr (pe_bm PySem.F.plainAttrs_list PySem.F.slot_list_extend PySem.F.type_list_extend mt_extend (pv 5) (pa_cons (pe_lc (own := [("to", 7)]) rfl sc__law_reached.nd (pi_range1 rfl T.n_range (pa_cons (pv 1) pa_nil)) (blkOk_by (N := nm__law_reached) (sc := defScope st__law_reached) (by decide +kernel)) (fun _ _ _ _ _ => (pg_name (i := 7) sc__law_reached.nd rfl (by first | exact Or.inl rfl | exact Or.inr rfl))) (fun _ _ _ _ _ => pts_one (pt_cmpR op_gt (pe_ix (kix_tup (K := K)) (pe_ix (kix_tup (K := K)) (pv 0) (pv 6) (fun _ _ => rfl)) (pv 7) (fun _ _ => rfl)) pe_int (nomark _))) (fun _ _ _ _ _ => (pv 7))) pa_nil))))) pss_nil)))) (pss_one (ps_expr (pe_bm PySem.F.plainAttrs_list PySem.F.slot_list_append PySem.F.type_list_append mt_append (pv 2) (pa_cons (pe_callB (call_sortedDI rfl) (by rfl) T.n_sorted bo_sorted (pa_cons (pv 4) pa_nil)) pa_nil))))))) (pss_one (ps_ret (pv 2)))))), ?_⟩
    refine asg_seq (P := IsV (.int (m.length : Int))) (es_lenTb rfl hT) fun v H1 e1 ev => ?_
    subst ev
    have hT1 := tb_same e1 hT
    refine ⟨Nat.zero_le _, fun L hL => ?_⟩
    have sL := new_same (o := .lst []) hL
    refine ⟨.int (m.length : Int), rfl, (m.length : Int), rfl, by omega, by omega, for_range (lo := 0) (fun i τ G => Same H1 G ∧ ∃ ys x3 x4 x5 x6, τ = [some (.ref a), some (.int (m.length : Int)), some (.ref L), x3, x4, x5, x6, none] ∧ G L = some (.lst ys) ∧ ys.length = i ∧ RlA K G L m ys) ⟨sL, [], none, none, none, none, rfl, upd_same, rfl, fun i y hy => nomatch hy⟩ (fun i τ G hi p => ?_) fun τ G p => ?_⟩
    · obtain ⟨sG, ys, x3, x4, x5, x6, rfl, gL, yl, rl⟩ := p
      have hi : i < m.length := by
        have : ((m.length : Int)).toNat = m.length := by omega
        omega
      have hTG := tb_same sG hT1
      rw [show (0 : Int) + ((i : Nat) : Int) = (i : Int) from Int.zero_add _]
      show tSeq (tPar 4 5 _) _ _ [some (.ref a), some (.int (m.length : Int)), some (.ref L), some (natV i), x4, x5, x6, none] G
      refine fun d hd => ?_
      have sd := new_same (o := .dK []) hd
      refine es_sucs (K := K) (a := a) (m := m) (x := i) (i := 3) (j := 7) (fun y => [some (.ref a), some (.int (m.length : Int)), some (.ref L), some (natV i), x4, x5, x6, some y]) (es_vV rfl) (tb_same sd hTG) t hi (fun y H' Q q => q) (fun y => rfl) (fun y => rfl) (fun y => rfl) (fun y => rfl) _ (Same.refl _) _ fun v G1 e1' hv => ?_
      obtain ⟨W, ev, gW, nW⟩ := hv
      subst ev
      have gd1 : G1 d = some (.dK []) := e1' _ _ upd_same
      have hdW : d ≠ W := fun z => by rw [z] at gd1; rw [gW] at gd1; cases gd1
      have hW0 : G W = none := by rwa [upd_ne (Ne.symm hdW)] at nW
      refine ⟨_, _, rfl, ?_⟩
      show tSeq (tWhile _ _) _ _ [some (.ref a), some (.int (m.length : Int)), some (.ref L), some (natV i), some (.ref d), some (.ref W), x6, none] G1
      refine ⟨LrW a L m.length i d W G m, ⟨_, [], sucs m i, x6, rfl, Same.trans sd e1', gd1, gW, ⟨List.nodup_nil, fun x hx => absurd hx (List.not_mem_nil), fun x hx => .of ((mem_sucs hi).mp hx), fun j e => .inr ((mem_sucs hi).mpr e), fun x hx => absurd hx (List.not_mem_nil)⟩, ?_, rfl⟩, ?_⟩
      · have := sucs_len (m := m) (x := i)
        simp only [List.length_nil]
        omega
      · rintro M τ G2 ⟨ks, ws, y6, rfl, s2, g2d, g2w, st, mb, rfl⟩
        refine eb_test (b := !decide (ws.map natI = [])) (es_neLst (ns := ws.map natI) (ms := []) (es_imp (es_seqL (K := K) rfl (lst_of g2w)) fun v H' e ⟨l, ev, hl⟩ => ⟨l, ev, by rw [← natV_map]; exact hl⟩) es_lst0) G2 (Same.refl _) _ fun G3 e3 => ?_
        have s3 := Same.trans s2 e3
        have g3d := e3 _ _ g2d
        have g3w := e3 _ _ g2w
        by_cases hws : ws = []
        · subst hws
          refine iteF ?_
          have g3L : G3 L = some (.lst ys) := s3 _ _ gL
          refine ⟨.ref L, rfl, .inl ⟨rfl, _, lst_of g3L⟩, .ref d, rfl, d, kvT ks, ks.map natI, rfl, .inl g3d, ?_, ?_, fun ys' p perm srt hp => ?_⟩
          · unfold kvT
            rw [List.map_map, List.map_map]
            rfl
          · rw [List.length_map]
            have := Tb.nodup_lt st.nd fun x hx => (st.rk x hx).lt.2
            omega
          have ey := asc_of perm srt st.nd (fun j => (st.all j).trans mem_rsM.symm) rsM_asc
          have npL : p ≠ L := fun z => by rw [z, g3L] at hp; cases hp
          have sp := new_same (o := .lst (ys'.map V.int)) hp
          refine ⟨L, ys, .ref p, rfl, rfl, sp _ _ g3L, small1000 (by omega), same_mut hL (Same.trans (Same.trans sG s3) sp), ys ++ [.ref p], _, _, _, _, rfl, upd_same, by rw [List.length_append, yl]; rfl, fun i' y hy => ?_⟩
          by_cases q : i' < ys.length
          · rw [List.getElem?_append_left q] at hy
            obtain ⟨l, h1, h2, h3⟩ := rl i' y hy
            exact ⟨l, h1, h2, by rw [upd_ne h2]; exact sp _ _ (s3 _ _ h3)⟩
          · rw [List.getElem?_append_right (by omega)] at hy
            cases z : i' - ys.length with
            | succ n => rw [z] at hy; cases hy
            | zero =>
              rw [z] at hy
              cases hy
              have : i' = i := by omega
              subst this
              exact ⟨p, rfl, npL, by rw [upd_ne npL, upd_same, ey, ← natV_map]⟩
        · obtain ⟨ws0, x, rfl⟩ : ∃ ws0 x, ws = ws0 ++ [x] := ⟨ws.dropLast, ws.getLast hws, (List.dropLast_concat_getLast hws).symm⟩
          rw [show (!decide ((ws0 ++ [x]).map natI = [])) = true by simp]
          refine iteT ⟨fun τ' G' => ∃ M', M' < (ws0 ++ [x]).length + 25 * (m.length - ks.length) ∧ LrW a L m.length i d W G m M' τ' G', fun _ _ h => h, ?_⟩
          have e2 : ((ws0 ++ [x]).map natV)[((ws0 ++ [x]).map natV).length - 1]? = some (natV x) := by
            rw [List.map_append, List.length_append]
            simp
          have e1 : ((ws0 ++ [x]).map natV).dropLast = ws0.map natV := by rw [List.map_append]; exact List.dropLast_concat
          refine ⟨.ref W, rfl, .inl ⟨rfl, _, lst_of g3w⟩, W, _, natV x, rfl, rfl, g3w, e2, ?_⟩
          rw [e1]
          have s4 : Same G (upd G3 W (.lst (ws0.map natV))) := same_mut hW0 s3
          have g4d : upd G3 W (.lst (ws0.map natV)) d = some (.dK (kvT ks)) := by rw [upd_ne hdW]; exact g3d
          have g4w : upd G3 W (.lst (ws0.map natV)) W = some (.lst (ws0.map natV)) := upd_same
          generalize upd G3 W (.lst (ws0.map natV)) = G4 at s4 g4d g4w
          have xn := (st.rw x (by simp)).lt.2
          have kl := Tb.nodup_lt st.nd fun x hx => (st.rk x hx).lt.2
          simp only [List.length_append, List.length_cons, List.length_nil] at mb
          refine ifs_1 (b := !decide (x ∈ ks)) (eb_as (eb_bt (es_dnin (d := d) (k := Sum.inl (x : Int)) (es_vV rfl) (es_vV rfl) g4d)) ?_) (fun hc G5 e5 => ?_) fun hc G5 e5 => ?_
          · rw [valV_kvT]
            by_cases h : x ∈ ks
            · rw [if_pos h, decide_eq_true h]; rfl
            · rw [if_neg h, decide_eq_false h]; rfl
          · have hx : x ∉ ks := by simpa using hc
            have hv0 : valV (kvT ks) (Sum.inl (x : Int)) = none := by rw [valV_kvT, if_neg hx]
            have st2 := st.take xn hx
            have kl2 := Tb.nodup_lt st2.nd fun x hx => (st2.rk x hx).lt.2
            simp only [List.length_append, List.length_cons, List.length_nil] at kl2
            refine ⟨.ref d, rfl, natV x, rfl, d, _, rfl, .inl ⟨kvT ks, Sum.inl (x : Int), e5 _ _ g4d, rfl, small1000 (by unfold kvT; rw [List.length_map]; omega), rfl⟩, ?_⟩
            rw [putK_new hv0, ← kvT_snoc]
            have g6w : upd G5 d (.dK (kvT (ks ++ [x]))) W = some (.lst (ws0.map natV)) := by rw [upd_ne (Ne.symm hdW)]; exact e5 _ _ g4w
            have s6 : Same G (upd G5 d (.dK (kvT (ks ++ [x])))) := same_mut hd (Same.trans s4 e5)
            have g6d : upd G5 d (.dK (kvT (ks ++ [x]))) d = some (.dK (kvT (ks ++ [x]))) := upd_same
            generalize upd G5 d (.dK (kvT (ks ++ [x]))) = G6 at g6w s6 g6d
            refine ⟨.ref W, rfl, .inl ⟨rfl, _, lst_of g6w⟩, ?_⟩
            refine es_sucs (K := K) (a := a) (m := m) (x := x) (i := 6) (j := 7) (fun y => [some (.ref a), some (.int (m.length : Int)), some (.ref L), some (natV i), some (.ref d), some (.ref W), some (natV x), some y]) (es_vV rfl) (tb_same s6 hTG) t xn (fun y H' Q q => q) (fun y => rfl) (fun y => rfl) (fun y => rfl) (fun y => rfl) _ (Same.refl _) _ fun v G7 e7 hv => ?_
            obtain ⟨Z, ev, gZ, nZ⟩ := hv
            subst ev
            have g7w := e7 _ _ g6w
            have sl := sucs_len (m := m) (x := x)
            refine ⟨W, Z, _, _, rfl, rfl, g7w, gZ, Nat.le_of_lt (small1000 (by rw [List.length_map, List.length_map]; omega)), ?_⟩
            refine ⟨_, ?_, ks ++ [x], ws0 ++ sucs m x, _, rfl, same_mut hW0 (Same.trans s6 e7), ?_, ?_, st2, ?_, rfl⟩
            · simp only [List.length_append, List.length_cons, List.length_nil]
              omega
            · rw [upd_ne hdW]; exact e7 _ _ g6d
            · rw [List.map_append]; exact upd_same
            · simp only [List.length_append, List.length_cons, List.length_nil]
              omega
          · have hx : x ∈ ks := by simpa using hc
            refine ⟨_, ?_, ks, ws0, _, rfl, Same.trans s4 e5, e5 _ _ g4d, e5 _ _ g4w, st.drop hx, by omega, rfl⟩
            simp only [List.length_append, List.length_cons, List.length_nil]
            omega
    · obtain ⟨sG, ys, x3, x4, x5, x6, rfl, gL, yl, rl⟩ := p
      refine ⟨.ref L, rfl, k _ L ys (Same.trans e1 sG) (Same.free e1 hL) gL (by omega) rl⟩
theorem cl__law_reached (T : Txt K mg) : Cl P w K mg base 1 "_law_reached" (spReachL K) := by
  obtain ⟨f, fd, F, hm, hb⟩ := T.f__law_reached
  exact cl_of (ok__law_reached F T) hm F.kp hb
section
variable {σ : L2.St} {H : Hp}
theorem es_eqLst {ta tb : TE} {ns ms : List Int} (ha : EvS ta σ H (fun v H' => ∃ a, v = .ref a ∧ SqL K H' a (ns.map V.int))) (hb : EvS tb σ H (fun v H' => ∃ a, v = .ref a ∧ SqL K H' a (ms.map V.int))) : EvS (tOp (rEqD K) ta tb) σ H (IsV (.bl (decide (ns = ms)))) := fun H1 e Q q =>
  ha H1 e _ fun v H2 e2 ⟨a, ev, h1⟩ => hb H2 (Same.trans e e2) _ fun u H3 e3 ⟨b, eu, h2⟩ => by
    subst ev eu
    exact ⟨_, _, dp_list (same_lst e3 h1), dp_list h2, shaped_list ns, shaped_list ms, q _ _ (Same.trans e2 e3) (by rw [eqv_list])⟩
theorem es_inE {te tl : TE} {l : Addr} {ks : List Nat} {k : Nat} (he : EvS te σ H (IsV (natV k))) (ht : EvS tl σ H (IsV (.ref l))) (hl : H l = some (.lst (ks.map natV))) : EvS (tOp (rIn K false) te tl) σ H (IsV (.bl (decide (k ∈ ks)))) := fun H1 e Q q =>
  he H1 e _ fun v H2 e2 ev => ht H2 (Same.trans e e2) _ fun u H3 e3 eu => by
    subst ev eu
    refine ⟨l, ks.map natV, rfl, .inl (lst_of ((Same.trans (Same.trans e e2) e3) _ _ hl)), rfl, ?_, q _ _ (Same.trans e2 e3) ?_⟩
    · rw [List.all_eq_true]
      intro x hx
      obtain ⟨_, _, rfl⟩ := List.mem_map.mp hx
      rfl
    · rw [inV_nat]
      rfl
theorem rwa_dp {ps : List V} {rows : Tb.M} (h : RwA K H ps rows) : DpAll K H ps (rows.map tupD) := by
  have key : ∀ (rows : Tb.M) (ps : List V), RwA K H ps rows → DpAll K H ps (rows.map tupD) := fun rows => by
    induction rows with
    | nil => intro ps h; cases ps with
      | nil => exact .nil
      | cons p ps => have := h.1; simp at this
    | cons r rows ih => intro ps h; cases ps with
      | nil => have := h.1; simp at this
      | cons p ps =>
        obtain ⟨b, rfl, hb⟩ := h.2 0 p r rfl rfl
        exact .cons (dp_tup hb) (ih ps ⟨by have := h.1; simpa using this, fun i p' r' hp hr => h.2 (i + 1) p' r' hp hr⟩)
  exact key rows ps h
theorem es_notInR {ti : TE} {j : Nat} {l : Addr} {ps : List V} {rows : Tb.M} {r : List Int} (hi : EvS ti σ H (IsI K r)) (hv : σ[j]? = some (some (.ref l))) (hl : H l = some (.lst ps)) (hr : RwA K H ps rows) : EvS (tOp (rNotInD K) ti (tVar j)) σ H (IsV (.bl (!decide (r ∈ rows)))) := fun H1 e Q q =>
  hi H1 e _ fun v H2 e2 ⟨b, ev, hb⟩ => ⟨.ref l, hv, by
    subst ev
    have e12 := Same.trans e e2
    refine ⟨tupD r, rows.map tupD, dp_tup hb, .lst (lst_of (e12 _ _ hl)) (rwa_dp (rwa_same e12 hr)), shaped_tup r, shaped_rows rows, q _ _ e2 ?_⟩
    show V.bl _ = V.bl _
    congr 2
    rw [Bool.eq_iff_iff, decide_eq_true_iff, List.any_eq_true]
    constructor
    · rintro ⟨d, hd, he⟩
      obtain ⟨x, hx, rfl⟩ := List.mem_map.mp hd
      have he : decide (x = r) = true := (eqv_tup x r).symm.trans he
      rw [← of_decide_eq_true he]
      exact hx
    · intro hx
      exact ⟨_, List.mem_map.mpr ⟨r, hx, rfl⟩, (eqv_tup r r).trans (decide_eq_true rfl)⟩⟩
end
theorem rs_full {m : Tb.M} {i : Nat} : decide (((rsM m i).length : Int) < (m.length : Int)) = !allR m i := by
  rw [← all_keys (rsM_asc.imp fun h => Nat.ne_of_lt h) (fun j => mem_rsM)]
  have : (rsM m i).length ≤ m.length := by
    unfold rsM
    refine Nat.le_trans (List.length_filter_le _ _) ?_
    rw [List.length_range]
    exact Nat.le_refl _
  rw [Bool.eq_iff_iff]
  simp
  omega
theorem ok__law_hangs {f : Addr} {fd : FuncData} (F : Fun K "_law_hangs" "_law_hangs" st__law_hangs f fd) (T : Txt K mg) : FnOk P w K mg base CX0 2 f fd ["table"] (spHang K) := by
  have c__law_reached : Cl P w K mg base 1 "_law_reached" (spReachL K) := cl__law_reached T
  refine F.ok sc__law_hangs (fun vs H Q E h => ?_) (fun cdv A outer s H vs Q E hr h => ?_)
  · obtain ⟨a, m, rfl, _⟩ := h
    rfl
  · obtain ⟨a, m, rfl, hT, t, k⟩ := h
    have n24 := t.n24
    refine ⟨_, (pss_one (ps_ret (pe_cmpR (kop_eqD (K := K) hr.units) (pe_lc (own := [("here", 1)]) rfl sc__law_hangs.nd (kpi_list (K := K) (pe_f c__law_reached hr (by decide) rfl (pa_cons (pv 0) pa_nil))) (blkOk_by (N := nm__law_hangs) (sc := defScope st__law_hangs) (by decide +kernel)) (fun _ _ _ _ _ => (pg_name (i := 1) sc__law_hangs.nd rfl (by first | exact Or.inl rfl | exact Or.inr rfl))) (fun _ _ _ _ _ => pts_one (pt_cmpR op_lt (pe_callB (kcall_len (K := K)) (by rfl) T.n_len bo_len (pa_cons (pv 1) pa_nil)) (pe_callB (kcall_len (K := K)) (by rfl) T.n_len bo_len (pa_cons (pv 0) pa_nil)) (nomark _))) (fun _ _ _ _ _ => pe_int)) (pe_lst pa_nil) (nomark _)))), ?_⟩
    refine ⟨.ref a, rfl, a, m, rfl, hT, t, fun H1 L ys e1 nL gL yl rl => ⟨L, rfl, ⟨ys, lst_of gL⟩, ?_⟩⟩
    have hT1 := tb_same e1 hT
    let b : V → Bool := fun v => match v with
      | .ref l => (match H1 l with
        | some (.lst zs) => decide ((zs.length : Int) < (m.length : Int))
        | _ => false)
      | _ => false
    have hb : ∀ {i : Nat} {y : V}, ys[i]? = some y → ∃ l, y = .ref l ∧ H1 l = some (.lst ((rsM m i).map natV)) ∧ b y = !allR m i := fun {i y} hy => by
      obtain ⟨l, h1, h2, h3⟩ := rl i y hy
      subst h1
      refine ⟨l, rfl, h3, ?_⟩
      show (match H1 l with | some (.lst zs) => decide ((zs.length : Int) < (m.length : Int)) | _ => false) = _
      rw [h3]
      show decide ((((rsM m i).map natV).length : Int) < (m.length : Int)) = _
      rw [List.length_map]
      exact rs_full
    have lc : EvS (tLc (fun _ H R => R (Itl K L) H) (gName 1) (tTest (tOp (rI0 fun i j => V.bl (decide (i < j))) (tCB (N0.rLen K) (tCons (tVar 1) tNil)) (tCB (N0.rLen K) (tCons (tVar 0) tNil)))) (tC (.int 1)) [1]) [some (.ref a), none] H1 (NewL H1 ((ys.filter b).map fun _ => V.int 1)) := es_lcV (xs := ys) (b := b) (fun _ => V.int 1) (fun x => [some (.ref a), some x]) (fun G3 e3 R hR' => hR' _ _ (Same.refl _) (walk_listS (same_lst e3 (lst_of gL)))) (by omega) (fun x hx H' Q q => q) (fun x hx => rfl) (fun x hx => by
      obtain ⟨i, hi, rfl⟩ := List.mem_iff_getElem.mp hx
      obtain ⟨l, h1, h2, h3⟩ := hb (List.getElem?_eq_getElem hi)
      rw [h3, h1]
      refine eb_as (eb_test (es_i0 (i := ((rsM m i).length : Int)) (j := (m.length : Int)) (es_as (es_lenL (es_seqL rfl (lst_of h2))) (by rw [List.length_map])) (es_lenTb rfl hT1))) ?_
      exact rs_full) fun x hx _ => es_cV
    refine es_ret (D := { nx := fun _ H' => Q .non H', rt := Q }) (es_eqLst (ns := (ys.filter b).map fun _ => (1 : Int)) (ms := []) (es_imp lc fun v H' e ⟨D, ev, dD, nD⟩ => ⟨D, ev, lst_of (by rw [dD, List.map_map]; rfl)⟩) es_lst0) fun v H' e ev => ?_
    subst ev
    refine k H' _ (Same.trans e1 e) ?_
    rw [decide_eq_true_iff, List.map_eq_nil_iff, List.filter_eq_nil_iff]
    constructor
    · intro h i j hi hj
      have hy := List.getElem?_eq_getElem (show i < ys.length by omega)
      obtain ⟨l, h1, h2, h3⟩ := hb hy
      have := h _ (List.mem_of_getElem? hy)
      rw [h3] at this
      exact allR_iff.mp (by simpa using this) j hj
    · intro h y hy
      obtain ⟨i, hi, rfl⟩ := List.mem_iff_getElem.mp hy
      obtain ⟨l, h1, h2, h3⟩ := hb (List.getElem?_eq_getElem hi)
      rw [h3, allR_iff.mpr fun j hj => h i j (by omega) hj]
      simp
theorem cl__law_hangs (T : Txt K mg) : Cl P w K mg base 2 "_law_hangs" (spHang K) := by
  obtain ⟨f, fd, F, hm, hb⟩ := T.f__law_hangs
  exact cl_of (ok__law_hangs F T) hm F.kp hb
/-! the law's pieces -/
theorem natI_inj : ∀ {a b : List Nat}, a.map natI = b.map natI → a = b
  | [], [], _ => rfl
  | [], _ :: _, h => by cases h
  | _ :: _, [], h => by cases h
  | x :: a, y :: b, h => by
    have h := List.cons.inj h
    rw [Int.ofNat.inj h.1, natI_inj h.2]
theorem part_in {m : Tb.M} {i : Nat} (hi : i < m.length) : (clsM m i).map natI ∈ partsM m i ↔ ¬ (clsM m i).head? = some i := by
  unfold partsM
  rw [List.mem_map]
  refine Iff.trans ⟨fun ⟨l, hl, e⟩ => ?_, fun h => ⟨_, h, rfl⟩⟩ (Tb.part_new (rB_tr (m := m)) hi)
  exact natI_inj e ▸ hl
def spPartsL (K : PySem.W.Frag) : Sp := fun vs H Q _ => ∃ (a : Addr) (m : Tb.M), vs = [.ref a] ∧ TbT K H a m ∧ Tab m ∧ ∀ H' F ps, Same H H' → H F = none → H' F = some (.lst ps) → RwA K H' ps (partsM m m.length) → Q (.ref F) H'
theorem ok__law_parts {f : Addr} {fd : FuncData} (F : Fun K "_law_parts" "_law_parts" st__law_parts f fd) (T : Txt K mg) : FnOk P w K mg base CX0 2 f fd ["table"] (spPartsL K) := by
  have c__law_reached : Cl P w K mg base 1 "_law_reached" (spReachL K) := cl__law_reached T
  refine F.ok sc__law_parts (fun vs H Q E h => ?_) (fun cdv A outer s H vs Q E hr h => ?_)
  · obtain ⟨a, m, rfl, _⟩ := h
    rfl
  · obtain ⟨a, m, rfl, hT, t, k⟩ := h
    have n24 := t.n24
    refine ⟨_, (pss_cons (ps_asg (pe_tup (pa_cons (pe_f c__law_reached hr (by decide) rfl (pa_cons (pv 0) pa_nil)) (pa_cons (pe_lst pa_nil) pa_nil))) (kpg_tup (K := K) (n := 2) rfl (pgs_cons (pg_name (i := 1) sc__law_parts.nd rfl (Or.inr rfl)) (pgs_cons (pg_name (i := 2) sc__law_parts.nd rfl (Or.inl rfl)) pgs_nil)))) (pss_cons (ps_for PassesOwn.never rfl (pi_range1 rfl T.n_range (pa_cons (pe_callB (kcall_len (K := K)) (by rfl) T.n_len bo_len (pa_cons (pv 0) pa_nil)) pa_nil)) (pg_name (i := 3) sc__law_parts.nd rfl (Or.inr rfl)) (pss_cons (ps_set (i := 4) sc__law_parts.nd rfl (Or.inl rfl) (pe_callTy (kcall_tuple (K := K)) (by rfl) T.n_tuple bo_tuple (pa_cons (pe_lc (own := [("to", 5)]) rfl sc__law_parts.nd (pi_range1 rfl T.n_range (pa_cons (pe_callB (kcall_len (K := K)) (by rfl) T.n_len bo_len (pa_cons (pv 0) pa_nil)) pa_nil)) (blkOk_by (N := nm__law_parts) (sc := defScope st__law_parts) (by decide +kernel)) (fun _ _ _ _ _ => (pg_name (i := 5) sc__law_parts.nd rfl (by first | exact Or.inl rfl | exact Or.inr rfl))) (fun _ _ _ _ _ => pts_one (PW.pt (pw_or (pt_cmpR op_eq (pv 5) (pv 3) (nomark _)) (pw_or1 (PW.pt (pw_and (pt_cmpR (kopIn (K := K)) (pv 5) (pe_ix (kix_list (K := K)) (pv 1) (pv 3) (fun _ _ => rfl)) (by rfl)) (pw_and1 (pt_cmpR (kopIn (K := K)) (pv 3) (pe_ix (kix_list (K := K)) (pv 1) (pv 5) (fun _ _ => rfl)) (by rfl))))))))) (fun _ _ _ _ _ => (pv 5))) pa_nil))) (pss_one (ps_if (pt_cmpR (kop_notInD (K := K) hr) (pv 4) (pv 2) (by rfl)) (pss_one (ps_expr (pe_bm PySem.F.plainAttrs_list PySem.F.slot_list_append PySem.F.type_list_append mt_append (pv 2) (pa_cons (pv 4) pa_nil)))) pss_nil)))) (pss_one (ps_ret (pv 2))))), ?_⟩
    refine ⟨.ref a, rfl, a, m, rfl, hT, t, fun H1 D ys e1 nD gD yl rl => ⟨Nat.zero_le _, fun L hL => ⟨by show 2 ≤ sizeLine; decide, fun p hp => ⟨p, _, rfl, tup_of upd_same, rfl, _, _, rfl, _, _, rfl, rfl, ?_⟩⟩⟩⟩
    have sL := new_same (o := .lst []) hL
    have sp := new_same (o := .tup [V.ref D, V.ref L]) hp
    have e2 := Same.trans sL sp
    have gL0 : upd (upd H1 L (.lst [])) p (.tup [V.ref D, V.ref L]) L = some (.lst []) := sp _ _ upd_same
    generalize upd (upd H1 L (.lst [])) p (.tup [V.ref D, V.ref L]) = H2 at e2 gL0
    have hT1 := tb_same e1 hT
    dsimp only
    refine es_lenTb rfl (tb_same e2 hT1) _ (Same.refl _) _ fun v G0 e0 ev => ⟨(m.length : Int), by rw [show v = _ from ev], by omega, by omega, for_range (lo := 0) (fun i τ G => Same H1 G ∧ ∃ ps x3 x4, τ = [some (.ref a), some (.ref D), some (.ref L), x3, x4, none] ∧ G L = some (.lst ps) ∧ RwA K G ps (partsM m i)) ⟨Same.trans e2 e0, [], none, none, rfl, e0 _ _ gL0, rwa_nil⟩ (fun i τ G hi p => ?_) fun τ G p => ?_⟩
    · obtain ⟨sG, ps, x3, x4, rfl, gL, rw_⟩ := p
      have hi : i < m.length := by
        have : ((m.length : Int)).toNat = m.length := by omega
        omega
      have hTG := tb_same sG hT1
      have gDG := sG _ _ gD
      have hyG : ∀ {j : Nat}, j < m.length → ∃ l, ys[j]? = some (.ref l) ∧ G l = some (.lst ((rsM m j).map natV)) := fun {j} hj => by
        obtain ⟨l, h1, h2, h3⟩ := rl j _ (List.getElem?_eq_getElem (show j < ys.length by omega))
        exact ⟨l, by rw [List.getElem?_eq_getElem (show j < ys.length by omega), h1], sG _ _ h3⟩
      rw [show (0 : Int) + ((i : Nat) : Int) = (i : Int) from Int.zero_add _]
      show tSeq (tAsg _ _) _ _ [some (.ref a), some (.ref D), some (.ref L), some (natV i), x4, none] G
      obtain ⟨li, hyi, gli⟩ := hyG hi
      refine asg_seq (P := IsI K ((clsM m i).map natI)) (es_imp (es_tupL (es_imp (es_lcV (xs := (List.range m.length).map fun j : Nat => V.int (j : Int)) (b := fun v => match v with | .int g => decide (g.toNat = i) || (rB m i g.toNat && rB m g.toNat i) | _ => false) (fun v => v) (fun x => [some (.ref a), some (.ref D), some (.ref L), some (natV i), x4, some x]) (ei_range (es_lenTb rfl hTG) (by omega)) (by rw [List.length_map, List.length_range]; omega) (fun x hx H' Q q => q) (fun x hx => rfl) (fun x hx => ?_) fun x hx hb => es_vV rfl) (P' := NewL G ((clsM m i).map natV)) fun v H' e p => ?_)) fun v H' e ⟨q, ev, hq⟩ => ⟨q, ev, by rw [← natV_map]; exact hq⟩) fun v G1 e1' hv => ?_
      · obtain ⟨g, hg, rfl⟩ := mem_rangeV hx
        obtain ⟨lg, hyg, glg⟩ := hyG hg
        refine eb_as (eb_or2 (eb_test (es_eqI (i := (g : Int)) (j := (i : Int)) (es_vV rfl) (es_vV rfl))) fun _ => eb_and2 (eb_test (es_inE (k := g) (l := li) (ks := rsM m i) (es_vV rfl) (es_ixLL (j := i) rfl gDG (es_vV rfl) hyi) gli)) fun _ => eb_test (es_inE (k := i) (l := lg) (ks := rsM m g) (es_vV rfl) (es_ixLL (j := g) rfl gDG (es_vV rfl) hyg) glg)) ?_
        show (decide ((g : Int) = (i : Int)) || (decide (g ∈ rsM m i) && decide (i ∈ rsM m g))) = (decide (((g : Int)).toNat = i) || (rB m i ((g : Int)).toNat && rB m ((g : Int)).toNat i))
        rw [Int.toNat_natCast, rB_mem fun j => mem_rsM, rB_mem fun j => mem_rsM]
        congr 1
        rw [Bool.eq_iff_iff, decide_eq_true_iff, decide_eq_true_iff]
        omega
      · obtain ⟨D', ev, dD', nD'⟩ := p
        refine ⟨D', ev, ?_, nD'⟩
        rw [dD', List.map_id'', List.filter_map]
        · rfl
        · intro x; rfl
      obtain ⟨B, rfl, gB⟩ := hv
      have gL1 := e1' _ _ gL
      have rw1 := rwa_same e1' rw_
      have sG1 := Same.trans sG e1'
      have pl : ps.length ≤ 24 := by
        rw [rw_.1]
        unfold partsM Tb.firsts
        rw [List.length_map, List.length_map]
        refine Nat.le_trans (List.length_filter_le _ _) ?_
        rw [List.length_range]
        omega
      refine ifs_1 (b := !decide ((clsM m i).map natI ∈ partsM m i)) (eb_test (es_notInR (es_vT rfl gB) rfl gL1 rw1)) (fun hc G3 e3 => ?_) fun hc G3 e3 => ?_
      · have hc : (clsM m i).head? = some i := by
          by_cases z : (clsM m i).head? = some i
          · exact z
          · rw [decide_eq_true ((part_in hi).mpr z)] at hc
            cases hc
        have gL2 := e3 _ _ gL1
        refine ⟨.ref L, rfl, .inl ⟨rfl, _, lst_of gL2⟩, .ref B, rfl, L, ps, .ref B, rfl, rfl, gL2, small1000 (by omega), same_mut hL (Same.trans sG1 e3), ps ++ [.ref B], _, _, rfl, upd_same, ?_⟩
        rw [partsM_succ, if_pos hc]
        exact rwa_mutl gL2 (rwa_snoc (rwa_same e3 rw1) (same_tup e3 gB))
      · have hc : ¬ (clsM m i).head? = some i := fun z => by
          rw [decide_eq_false fun q => (part_in hi).mp q z] at hc
          cases hc
        refine ⟨Same.trans sG1 e3, ps, _, _, rfl, e3 _ _ gL1, ?_⟩
        rw [partsM_succ, if_neg hc, List.append_nil]
        exact rwa_same e3 rw1
    · obtain ⟨sG, ps, x3, x4, rfl, gL, rw_⟩ := p
      have hn : ((m.length : Int)).toNat = m.length := by omega
      rw [hn] at rw_
      exact ⟨.ref L, rfl, k _ L ps (Same.trans e1 sG) (Same.free e1 hL) gL rw_⟩
theorem cl__law_parts (T : Txt K mg) : Cl P w K mg base 2 "_law_parts" (spPartsL K) := by
  obtain ⟨f, fd, F, hm, hb⟩ := T.f__law_parts
  exact cl_of (ok__law_parts F T) hm F.kp hb
/-! the beat, as the law finds it -/
noncomputable def pB (m : Tb.M) (L j : Nat) : Bool := @decide (∃ l : List Nat, l.length = L ∧ Tb.P m 0 l j) (Classical.propDecidable _)
theorem pB_iff {m : Tb.M} {L j : Nat} : pB m L j = true ↔ ∃ l : List Nat, l.length = L ∧ Tb.P m 0 l j := by
  unfold pB
  exact @decide_eq_true_iff _ (Classical.propDecidable _)
theorem pB_zero {m : Tb.M} {j : Nat} : pB m 0 j = decide (j = 0) := by
  rw [Bool.eq_iff_iff, pB_iff, decide_eq_true_iff]
  constructor
  · rintro ⟨l, hl, hp⟩
    rw [List.eq_nil_of_length_eq_zero hl] at hp
    exact (show 0 = j from hp).symm
  · rintro rfl
    exact ⟨[], rfl, rfl⟩
theorem pB_succ {m : Tb.M} (h0 : 0 < m.length) {L j : Nat} : pB m (L + 1) j = true ↔ ∃ x, x < m.length ∧ pB m L x = true ∧ Tb.E m x j := by
  rw [pB_iff]
  constructor
  · rintro ⟨l, hl, hp⟩
    have hne : l ≠ [] := fun z => by rw [z] at hl; simp at hl
    have e := (List.dropLast_concat_getLast hne).symm
    rw [e] at hp
    obtain ⟨x, h1, h2⟩ := Tb.p_cut hp
    have ej := h2.2
    have hl2 : l.dropLast.length = L := by rw [List.length_dropLast, hl]; rfl
    refine ⟨x, h2.1.1, pB_iff.mpr ⟨_, hl2, h1⟩, ?_⟩
    rw [← (show l.getLast hne = j from ej)]
    exact h2.1
  · rintro ⟨x, hx, hp, he⟩
    obtain ⟨l, h1, h2⟩ := pB_iff.mp hp
    exact ⟨l ++ [j], by rw [List.length_append, h1]; rfl, Tb.p_app h2 (Tb.p_one he)⟩
noncomputable def hereI (m : Tb.M) (L j : Nat) : Int := if pB m L j = true then 1 else 0
noncomputable def hereV (m : Tb.M) (L : Nat) : List V := (List.range m.length).map fun j => V.int (hereI m L j)
theorem hereI_pos {m : Tb.M} {L j : Nat} : decide (0 < hereI m L j) = pB m L j := by
  unfold hereI
  cases pB m L j <;> rfl
/-- found so far: of all rounds to the length L -/
def Fnd (m : Tb.M) (L : Nat) (g : Int) : Prop := 0 ≤ g ∧ ∀ h : Int, h ∣ g ↔ ∀ l : List Nat, l ≠ [] → l.length ≤ L → Tb.P m 0 l 0 → h ∣ (l.length : Int)
theorem fnd_zero {m : Tb.M} : Fnd m 0 0 := ⟨Int.le_refl 0, fun h => ⟨fun _ l hl h0 _ => absurd (List.eq_nil_of_length_eq_zero (by omega)) hl, fun _ => Int.dvd_zero h⟩⟩
theorem fnd_no {m : Tb.M} {L : Nat} {g : Int} (f : Fnd m L g) (h : pB m (L + 1) 0 = false) : Fnd m (L + 1) g := ⟨f.1, fun d => (f.2 d).trans ⟨fun H l hl hz hp => by
  by_cases q : l.length = L + 1
  · have := pB_iff.mpr ⟨l, q, hp⟩
    rw [h] at this
    cases this
  · exact H l hl (by omega) hp, fun H l hl hz hp => H l hl (by omega) hp⟩⟩
theorem fnd_yes {m : Tb.M} {L : Nat} {g g' : Int} (f : Fnd m L g) (h : pB m (L + 1) 0 = true) (h0 : 0 ≤ g') (hg : ∀ d : Int, d ∣ g' ↔ d ∣ g ∧ d ∣ ((L + 1 : Nat) : Int)) : Fnd m (L + 1) g' := by
  obtain ⟨l0, e0, p0⟩ := pB_iff.mp h
  refine ⟨h0, fun d => (hg d).trans ⟨fun ⟨a, b⟩ l hl hz hp => ?_, fun H => ⟨(f.2 d).mpr fun l hl hz hp => H l hl (by omega) hp, ?_⟩⟩⟩
  · by_cases q : l.length = L + 1
    · rw [q]; exact b
    · exact (f.2 d).mp a l hl (by omega) hp
  · have := H l0 (fun z => by rw [z] at e0; simp at e0) (by omega) p0
    rwa [e0] at this
def spOwn (K : PySem.W.Frag) : Sp := fun vs H Q _ => ∃ (a : Addr) (m : Tb.M), vs = [.ref a] ∧ TbT K H a m ∧ Tab m ∧ Tb.Hg m ∧ ∀ H' g, Same H H' → Tb.Bt m 0 g → Q (.int g) H'
theorem ok__law_own_beat {f : Addr} {fd : FuncData} (F : Fun K "_law_own_beat" "_law_own_beat" st__law_own_beat f fd) (T : Txt K mg) : FnOk P w K mg base CX0 2 f fd ["table"] (spOwn K) := by
  have c__law_shared : Cl P w K mg base 1 "_law_shared" spShared := cl__law_shared T
  refine F.ok sc__law_own_beat (fun vs H Q E h => ?_) (fun cdv A outer s H vs Q E hr h => ?_)
  · obtain ⟨a, m, rfl, _⟩ := h
    rfl
  · obtain ⟨a, m, rfl, hT, t, hg, k⟩ := h
    have n1 := t.n1
    have n24 := t.n24
    refine ⟨_, (pss_cons (ps_par (i := 1) (j := 2) rfl sc__law_own_beat.nd rfl rfl (by decide) rfl rfl (pa_cons (pe_callB (kcall_len (K := K)) (by rfl) T.n_len bo_len (pa_cons (pv 0) pa_nil)) (pa_cons pe_int pa_nil)) (by with_unfolding_all rfl)) (pss_cons (ps_set (i := 3) sc__law_own_beat.nd rfl (Or.inr rfl) (pe_lc (own := [("at", 7)]) rfl sc__law_own_beat.nd (pi_range1 rfl T.n_range (pa_cons (pv 1) pa_nil)) (blkOk_by (N := nm__law_own_beat) (sc := defScope st__law_own_beat) (by decide +kernel)) (fun _ _ _ _ _ => (pg_name (i := 7) sc__law_own_beat.nd rfl (by first | exact Or.inl rfl | exact Or.inr rfl))) (fun _ _ _ _ _ => pts_nil) (fun _ _ _ _ _ => (pe_callTy call_int1 (by rfl) T.n_int bo_int (pa_cons (pe_cmpR op_eq (pv 7) pe_int (nomark _)) pa_nil))))) (pss_cons (ps_for PassesOwn.never rfl (pi_range2 rfl T.n_range (pa_cons pe_int (pa_cons (pe_op op_add (pe_op op_mul (pe_op op_mul pe_int (pv 1)) (pv 1)) pe_int) pa_nil))) (pg_name (i := 4) sc__law_own_beat.nd rfl (Or.inl rfl)) (pss_cons (ps_set (i := 5) sc__law_own_beat.nd rfl (Or.inl rfl) (pe_lst pa_nil)) (pss_cons (ps_for PassesOwn.never rfl (pi_range1 rfl T.n_range (pa_cons (pv 1) pa_nil)) (pg_name (i := 6) sc__law_own_beat.nd rfl (Or.inr rfl)) (pss_one (ps_expr (pe_bm PySem.F.plainAttrs_list PySem.F.slot_list_append PySem.F.type_list_append mt_append (pv 5) (pa_cons (pe_callTy call_int1 (by rfl) T.n_int bo_int (pa_cons (pe_cmpR (kop_neD (K := K) hr.units) (pe_lc (own := [("at", 7)]) rfl sc__law_own_beat.nd (pi_range1 rfl T.n_range (pa_cons (pv 1) pa_nil)) (blkOk_by (N := nm__law_own_beat) (sc := defScope st__law_own_beat) (by decide +kernel)) (fun _ _ _ _ _ => (pg_name (i := 7) sc__law_own_beat.nd rfl (by first | exact Or.inl rfl | exact Or.inr rfl))) (fun _ _ _ _ _ => pts_one (PW.pt (pw_and (pt_cmpR op_gt (pe_ix (kix_list (K := K)) (pv 3) (pv 7) (fun _ _ => rfl)) pe_int (nomark _)) (pw_and1 (pt_cmpR op_gt (pe_ix (kix_tup (K := K)) (pe_ix (kix_tup (K := K)) (pv 0) (pv 7) (fun _ _ => rfl)) (pv 6) (fun _ _ => rfl)) pe_int (nomark _)))))) (fun _ _ _ _ _ => pe_int)) (pe_lst pa_nil) (nomark _)) pa_nil)) pa_nil))))) (pss_cons (ps_set (i := 3) sc__law_own_beat.nd rfl (Or.inr rfl) (pv 5)) (pss_one (ps_if (pt_cmpR op_gt (pe_ix (kix_list (K := K)) (pv 3) pe_int (fun _ _ => rfl)) pe_int (nomark _)) (pss_one (ps_set (i := 2) sc__law_own_beat.nd rfl (Or.inl rfl) (pe_f c__law_shared hr (by decide) rfl (pa_cons (pv 2) (pa_cons (pv 4) pa_nil))))) pss_nil)))))) (pss_one (ps_ret (pv 2)))))), ?_⟩
    refine par_seq (v := .int (m.length : Int)) (u := .int 0) (es_lenTb rfl hT) es_cV fun H1 e1 => ?_
    have hT1 := tb_same e1 hT
    refine asg_seq (P := NewL H1 (hereV m 0)) (es_imp (es_lcRg (fun i => V.int (hereI m 0 i)) (fun x => [some (.ref a), some (.int (m.length : Int)), some (.int 0), none, none, none, none, some x]) (es_vV rfl) (by omega) (fun i hi H' Q q => q) (fun i hi => rfl) fun i hi => ?_) fun v H' e p => p) fun v H2 e2 hv => ?_
    · refine es_as (es_intB (es_eqI (i := (i : Int)) (j := 0) (es_vV rfl) es_cV)) ?_
      unfold hereI
      rw [pB_zero]
      congr 2
      rw [decide_eq_true_iff, decide_eq_true_iff]
      exact propext ⟨fun h => by omega, fun h => by omega⟩
    obtain ⟨B, rfl, gB, nB⟩ := hv
    have e12 := Same.trans e1 e2
    have sqr : (m.length : Int) * (m.length : Int) ≤ 576 := by
      have : m.length * m.length ≤ 24 * 24 := Nat.mul_le_mul n24 n24
      have e : ((m.length * m.length : Nat) : Int) = (m.length : Int) * (m.length : Int) := Int.natCast_mul _ _
      omega
    have cm : ∀ i j : Int, 0 ≤ i → i ≤ 1000 → CMul i j := fun i j h1 h2 => .inl ⟨by omega, by omega⟩
    have nn : (2 * (m.length : Int) * (m.length : Int) + 2 - 1).toNat = 2 * m.length * m.length + 1 := by
      have e : ((2 * m.length * m.length : Nat) : Int) = 2 * (m.length : Int) * (m.length : Int) := by rw [Int.natCast_mul, Int.natCast_mul]; rfl
      omega
    refine ⟨.int (m.length : Int), rfl, 2, (m.length : Int), rfl, rfl, cm _ _ (by decide) (by decide), .int (m.length : Int), rfl, 2 * (m.length : Int), (m.length : Int), rfl, rfl, cm _ _ (by omega) (by omega), _, _, rfl, rfl, 1, 2 * (m.length : Int) * (m.length : Int) + 2, rfl, ?_, ?_⟩
    · have h2 : 2 * (m.length : Int) * (m.length : Int) = 2 * ((m.length : Int) * (m.length : Int)) := Int.mul_assoc _ _ _
      have h3 : 0 ≤ (m.length : Int) * (m.length : Int) := Int.mul_nonneg (by omega) (by omega)
      rw [h2]
      exact ⟨by omega, by omega, by omega, by omega⟩
    refine for_range (lo := 1) (fun L τ G => Same H2 G ∧ ∃ B g x4 x5 x6, τ = [some (.ref a), some (.int (m.length : Int)), some (.int g), some (.ref B), x4, x5, x6, none] ∧ G B = some (.lst (hereV m L)) ∧ Fnd m L g) ⟨Same.refl _, B, 0, none, none, none, rfl, gB, fnd_zero⟩ (fun L τ G hL p => ?_) fun τ G p => ?_
    · obtain ⟨sG, B, g, x4, x5, x6, rfl, gB, fn⟩ := p
      have hTG := tb_same sG (tb_same e2 hT1)
      show tSeq (tAsg _ _) _ _ [some (.ref a), some (.int (m.length : Int)), some (.int g), some (.ref B), some (.int (1 + (L : Int))), x5, x6, none] G
      refine ⟨Nat.zero_le _, fun C hC => ?_⟩
      have sC := new_same (o := .lst []) hC
      refine ⟨.int (m.length : Int), rfl, (m.length : Int), rfl, by omega, by omega, for_range (lo := 0) (fun j τ G' => Same G G' ∧ ∃ x6, τ = [some (.ref a), some (.int (m.length : Int)), some (.int g), some (.ref B), some (.int (1 + (L : Int))), some (.ref C), x6, none] ∧ G' C = some (.lst ((List.range j).map fun j => V.int (hereI m (L + 1) j)))) ⟨sC, _, rfl, upd_same⟩ (fun j τ G' hj p => ?_) fun τ G' p => ?_⟩
      · obtain ⟨s1, y6, rfl, gC⟩ := p
        have hj : j < m.length := by
          have : ((m.length : Int)).toNat = m.length := by omega
          omega
        have hT' := tb_same s1 hTG
        have gB' := s1 _ _ gB
        rw [show (0 : Int) + ((j : Nat) : Int) = (j : Int) from Int.zero_add _]
        show tDrop _ _ [some (.ref a), some (.int (m.length : Int)), some (.int g), some (.ref B), some (.int (1 + (L : Int))), some (.ref C), some (natV j), none] G'
        refine ⟨.ref C, rfl, .inl ⟨rfl, _, lst_of gC⟩, ?_⟩
        have hval : V.bl (!decide ((((List.range m.length).filter fun x => pB m L x && decide (0 < Tb.en m x j)).map fun _ => (1 : Int)) = [])) = V.bl (pB m (L + 1) j) := by
          congr 1
          rw [Bool.eq_iff_iff, pB_succ (show 0 < m.length by omega)]
          simp only [Bool.not_eq_true', decide_eq_false_iff_not, List.map_eq_nil_iff, List.filter_eq_nil_iff, List.mem_range, Bool.and_eq_true, decide_eq_true_eq]
          constructor
          · intro h
            refine Classical.byContradiction fun q => h fun x hx z => q ⟨x, hx, z.1, hx, hj, z.2⟩
          · rintro ⟨x, hx, h1, h2⟩ h
            exact h x hx ⟨h1, h2.2.2⟩
        refine es_intB (k := pB m (L + 1) j) (es_as (es_neLst (K := K) (ns := (((List.range m.length).filter fun x => pB m L x && decide (0 < Tb.en m x j)).map fun _ => (1 : Int))) (ms := []) (es_imp (es_lcV (xs := (List.range m.length).map fun x : Nat => V.int (x : Int)) (b := fun v => match v with | .int x => pB m L x.toNat && decide (0 < Tb.en m x.toNat j) | _ => false) (fun _ => V.int 1) (fun y => [some (.ref a), some (.int (m.length : Int)), some (.int g), some (.ref B), some (.int (1 + (L : Int))), some (.ref C), some (natV j), some y]) (ei_range (n := m.length) (es_vV rfl) (by omega)) (by rw [List.length_map, List.length_range]; omega) (fun y hy H' Q q => q) (fun y hy => rfl) (fun y hy => ?_) fun y hy _ => es_cV) fun v H' e ⟨D, ev, dD, nD⟩ => ⟨D, ev, lst_of (by rw [dD, List.filter_map, List.map_map, List.map_map]; rfl)⟩) es_lst0) hval) G' (Same.refl _) _ fun v G2 e3 ev => ?_
        · obtain ⟨x, hx, rfl⟩ := mem_rangeV hy
          refine eb_as (eb_and2 (eb_test (es_i0 (i := hereI m L x) (j := 0) (es_ixLL (j := x) rfl gB' (es_vV rfl) (by unfold hereV; rw [List.getElem?_map, List.getElem?_range hx]; rfl)) es_cV)) fun _ => eb_test (es_i0 (i := Tb.en m x j) (j := 0) (es_ten rfl hT' t hx hj (es_vV rfl) (es_vV rfl)) es_cV)) ?_
          show (decide (0 < hereI m L x) && decide (0 < Tb.en m x j)) = (pB m L ((x : Int)).toNat && decide (0 < Tb.en m ((x : Int)).toNat j))
          rw [Int.toNat_natCast, hereI_pos]
        · subst ev
          refine ⟨C, _, _, rfl, rfl, e3 _ _ gC, small1000 (by rw [List.length_map, List.length_range]; omega), same_mut hC (Same.trans s1 e3), _, rfl, ?_⟩
          rw [upd_same, List.range_succ, List.map_append]
          rfl
      · obtain ⟨s1, y6, rfl, gC⟩ := p
        have hn : ((m.length : Int)).toNat = m.length := by omega
        have gC' : G' C = some (.lst (hereV m (L + 1))) := by rw [gC, hn]; rfl
        dsimp only
        refine asg_seq (P := IsV (.ref C)) (es_vV rfl) fun v G2 e2' ev => ?_
        subst ev
        have gC' := e2' _ _ gC'
        have s1 := Same.trans s1 e2'
        clear e2' gC
        refine ifs_1 (b := pB m (L + 1) 0) (eb_as (eb_test (es_i0 (i := hereI m (L + 1) 0) (j := 0) (es_ixLL (K := K) (j := 0) (l := C) rfl gC' es_cV (by unfold hereV; rw [List.getElem?_map, List.getElem?_range (by omega)]; rfl)) es_cV)) hereI_pos) (fun hc G3 e3 => ?_) fun hc G3 e3 => ?_
        · refine ⟨.int g, rfl, .int (1 + (L : Int)), rfl, g, 1 + (L : Int), rfl, fn.1, by omega, fun g' g0 hg' => ⟨Same.trans sG (Same.trans s1 e3), C, g', _, _, _, rfl, e3 _ _ gC', fnd_yes fn hc g0 fun d => ?_⟩⟩
          rw [hg' d, show (1 : Int) + (L : Int) = ((L + 1 : Nat) : Int) by omega]
        · exact ⟨Same.trans sG (Same.trans s1 e3), C, g, _, _, _, rfl, e3 _ _ gC', fnd_no fn hc⟩
    · obtain ⟨sG, B, g, x4, x5, x6, rfl, gB, fn⟩ := p
      rw [nn] at fn
      have sq : 2 * m.length + 1 ≤ 2 * m.length * m.length + 1 := by
        have : 2 * m.length * 1 ≤ 2 * m.length * m.length := Nat.mul_le_mul_left _ n1
        omega
      exact ⟨.int g, rfl, k _ g (Same.trans e12 sG) (Tb.bt_short hg (by omega) fn.1 sq fn.2)⟩
theorem cl__law_own_beat (T : Txt K mg) : Cl P w K mg base 2 "_law_own_beat" (spOwn K) := by
  obtain ⟨f, fd, F, hm, hb⟩ := T.f__law_own_beat
  exact cl_of (ok__law_own_beat F T) hm F.kp hb
theorem sk_upd {H : Hp} {S l : Addr} {o : HO} (h : Sk H (some S)) (n : S ≠ l) : Sk (upd H l o) (some S) := by
  obtain ⟨a, b, c, e⟩ := h
  exact ⟨a, b, c, by rw [upd_ne n]; exact e⟩
theorem rs_new {H : Hp} {S l : Addr} {o : HO} (h : Sk H (some S)) (hl : H l = none) : Rs (some S) H (upd H l o) := .same h (new_same hl)
theorem sk_ne {H : Hp} {S l : Addr} (h : Sk H (some S)) (hl : H l = none) : S ≠ l := fun q => by
  subst q
  obtain ⟨a, b, c, e⟩ := h
  rw [hl] at e
  cases e
/-- a list that was not there changes -/
theorem rs_mut {H H1 : Hp} {S l : Addr} {o : HO} (r : Rs (some S) H H1) (hl : H l = none) : Rs (some S) H (upd H1 l o) := ⟨r.s0, sk_upd r.s1 (sk_ne r.s0 hl), fun a u n e => by
  rw [upd_ne (ne_of_none e hl)]
  exact r.keep a u n e⟩
/-! places in a drawn sequence -/
theorem par_gen {i j : Nat} {ta tb : TE} {x : TS} {D : Ends} {σ : L2.St} {H : Hp} {P1 : V → Hp → Prop} (h1 : EvS ta σ H P1) (h2 : ∀ v H1, Same H H1 → P1 v H1 → tb σ H1 fun u H2 => x D ((σ.set i (some v)).set j (some u)) H2) : tSeq (tPar i j (tCons ta (tCons tb tNil))) x D σ H :=
  h1 H (Same.refl _) _ fun v H1 e1 hv => (show tb σ H1 fun u H2 => ∃ v' w', [v, u] = [v', w'] ∧ x D ((σ.set i (some v')).set j (some w')) H2 from by
    have := h2 v H1 e1 hv
    have e : (fun u H2 => x D ((σ.set i (some v)).set j (some u)) H2) = fun u H2 => ∃ v' w', [v, u] = [v', w'] ∧ x D ((σ.set i (some v')).set j (some w')) H2 := by
      funext u H2
      refine propext ⟨fun h => ⟨v, u, rfl, h⟩, fun ⟨v', w', e, h⟩ => by cases e; exact h⟩
    rw [← e]
    exact this)
theorem par_LO {i j : Nat} {te : TE} {x : TS} {D : Ends} {σ : L2.St} {H : Hp} {n : Nat} (h : EvS te σ H (IsV (.int (n : Int)))) (hz : n ≤ 1000) (rest : ∀ H1 L O, Same H H1 → H L = none → H O = none → L ≠ O → H1 L = some (.lst ((List.range n).map natV)) → H1 O = some (.lst []) → x D ((σ.set i (some (.ref L))).set j (some (.ref O))) H1) : tSeq (tPar i j (tCons (tLstRg (tRg1 te)) (tCons (tLst tNil) tNil))) x D σ H :=
  par_gen (es_rg1 h ⟨by omega, by omega, by omega, by omega, by omega⟩) fun v H1 e1 hv => by
    obtain ⟨L, rfl, gL, nL⟩ := hv
    refine ⟨Nat.zero_le _, fun O hO => ?_⟩
    have nLO : L ≠ O := fun z => by rw [z] at gL; rw [gL] at hO; cases hO
    refine rest _ L O (Same.trans e1 (new_same (o := .lst []) hO)) nL (Same.free e1 hO) nLO ?_ upd_same
    rw [upd_ne nLO, gL]
    unfold rgV
    congr 2
    rw [Int.sub_zero, Int.toNat_natCast]
    refine List.map_congr_left fun i _ => ?_
    show V.int _ = V.int _
    rw [Int.zero_add]
theorem order_while {il io : Nat} {σ : L2.St} {H : Hp} {S L O : Addr} {x : TS} {D : Ends} {n : Nat} (h0 : σ[0]? = some (some (.ref S))) (hl : σ[il]? = some (some (.ref L))) (ho : σ[io]? = some (some (.ref O))) (hS : Sk H (some S)) (gL : H L = some (.lst ((List.range n).map natV))) (gO : H O = some (.lst [])) (hLO : L ≠ O) (nSL : S ≠ L) (nSO : S ≠ O) (hn : n ≤ 100)
    (rest : ∀ (G : Hp) (os : List Nat), (∀ a o, a ≠ S → a ≠ L → a ≠ O → H a = some o → G a = some o) → Sk G (some S) → G O = some (.lst (os.map natV)) → os.Perm (List.range n) → x D σ G) :
    tSeq (tWhile (tTest (tOp (rNeD K) (tVar il) (tLst tNil))) (tDrop (tBM K "list" rAppend (tVar io) (tCons (tBM K "list" rPopAt (tVar il) (tCons (tFn spDrawn (tCons (tVar 0) (tCons (tCB (N0.rLen K) (tCons (tVar il) tNil)) tNil))) tNil)) tNil)))) x D σ H := by
  refine ⟨fun M τ G => τ = σ ∧ ∃ ls os : List Nat, (∀ a o, a ≠ S → a ≠ L → a ≠ O → H a = some o → G a = some o) ∧ Sk G (some S) ∧ G L = some (.lst (ls.map natV)) ∧ G O = some (.lst (os.map natV)) ∧ (os ++ ls).Perm (List.range n) ∧ M = ls.length, ⟨n, rfl, List.range n, [], fun _ _ _ _ _ e => e, hS, gL, gO, List.Perm.refl _, by rw [List.length_range]⟩, ?_⟩
  rintro M τ G ⟨rfl, ls, os, kp, sG, gL, gO, pm, rfl⟩
  have pl := pm.length_eq
  rw [List.length_append, List.length_range] at pl
  refine eb_test (b := !decide (ls.map natI = [])) (es_neLst (ns := ls.map natI) (ms := []) (es_imp (es_seqL (K := K) hl (lst_of gL)) fun v H' e ⟨l, ev, hl⟩ => ⟨l, ev, by rw [← natV_map]; exact hl⟩) es_lst0) G (Same.refl _) _ fun G1 e1 => ?_
  have kp1 : ∀ a o, a ≠ S → a ≠ L → a ≠ O → H a = some o → G1 a = some o := fun a o h1 h2 h3 h4 => e1 _ _ (kp a o h1 h2 h3 h4)
  have gL1 := e1 _ _ gL
  have gO1 := e1 _ _ gO
  have sG1 : Sk G1 (some S) := sG.same e1
  by_cases hls : ls = []
  · subst hls
    rw [List.append_nil] at pm
    exact iteF (rest G1 os kp1 sG1 gO1 pm)
  · have hpos : 0 < ls.length := List.length_pos_iff.mpr hls
    rw [show (!decide (ls.map natI = [])) = true by simp [hls]]
    refine iteT ⟨fun τ' G' => ∃ M', M' < ls.length ∧ τ' = τ ∧ ∃ ls os : List Nat, (∀ a o, a ≠ S → a ≠ L → a ≠ O → H a = some o → G' a = some o) ∧ Sk G' (some S) ∧ G' L = some (.lst (ls.map natV)) ∧ G' O = some (.lst (os.map natV)) ∧ (os ++ ls).Perm (List.range n) ∧ M' = ls.length, fun _ _ h => h, ?_⟩
    refine ⟨.ref O, ho, .inl ⟨rfl, _, lst_of gO1⟩, .ref L, hl, .inl ⟨rfl, _, lst_of gL1⟩, .ref S, h0, .ref L, hl, L, _, rfl, .inl (lst_of gL1), S, _, rfl, sG1, by rw [List.length_map]; omega, by rw [List.length_map]; omega, fun G2 r r1 a0 a1 => ?_⟩
    rw [List.length_map] at a1
    have gL2 : G2 L = some (.lst (ls.map natV)) := r1.keep _ _ (fun q => nSL (Option.some.inj q)) gL1
    have gO2 : G2 O = some (.lst (os.map natV)) := r1.keep _ _ (fun q => nSO (Option.some.inj q)) gO1
    obtain ⟨j, rfl⟩ : ∃ j : Nat, r = (j : Int) := ⟨r.toNat, by omega⟩
    have hj : j < ls.length := by omega
    refine ⟨L, _, (j : Int), j, natV ls[j], rfl, rfl, gL2, by omega, by omega, ?_, by rw [List.getElem?_map, List.getElem?_eq_getElem hj]; rfl, ?_⟩
    · unfold seqIndex?
      simp
      omega
    · have gO3 : upd G2 L (.lst ((ls.map natV).eraseIdx j)) O = some (.lst (os.map natV)) := by rw [upd_ne (Ne.symm hLO)]; exact gO2
      refine ⟨O, _, _, rfl, rfl, gO3, small1000 (by rw [List.length_map]; omega), ls.length - 1, by omega, rfl, ls.eraseIdx j, os ++ [ls[j]], fun a o h1 h2 h3 h4 => ?_, ?_, ?_, ?_, ?_, ?_⟩
      · rw [upd_ne h3, upd_ne h2]
        exact r1.keep _ _ (fun q => h1 (Option.some.inj q).symm) (kp1 a o h1 h2 h3 h4)
      · obtain ⟨p, q, r, e⟩ := r1.s1
        exact ⟨p, q, r, by rw [upd_ne nSO, upd_ne nSL]; exact e⟩
      · rw [upd_ne hLO, upd_same, List.eraseIdx_eq_take_drop_succ, List.eraseIdx_eq_take_drop_succ, List.map_append, List.map_take, List.map_drop]
      · rw [upd_same, List.map_append]
        rfl
      · refine List.Perm.trans ?_ pm
        rw [List.append_assoc]
        refine List.Perm.append_left _ ?_
        have ec : ls = ls.take j ++ ls[j] :: ls.drop (j + 1) := by rw [List.getElem_cons_drop, List.take_append_drop]
        rw [List.eraseIdx_eq_take_drop_succ]
        show List.Perm (ls[j] :: (ls.take j ++ ls.drop (j + 1))) ls
        exact (List.perm_middle (l₁ := ls.take j) (a := ls[j]) (l₂ := ls.drop (j + 1))).symm.trans (List.Perm.of_eq ec.symm)
      · rw [List.length_eraseIdx]
        simp [hj]
/-- m' is m in another sequence -/
theorem mv_cut {m : Tb.M} (t : Tab m) {os : List Nat} (p : os.Perm (List.range m.length)) : Tb.Mv m (cutT m os) (fun i => os.getD i 0) := by
  have ol : os.length = m.length := by rw [p.length_eq, List.length_range]
  have at_ : ∀ i, i < m.length → os[i]? = some (os.getD i 0) := fun i hi => by
    rw [List.getD_eq_getElem?_getD, List.getElem?_eq_getElem (show i < os.length by omega)]
    rfl
  have nd : os.Nodup := p.nodup_iff.mpr List.nodup_range
  refine ⟨by unfold cutT; rw [List.length_map, ol], fun i hi => ?_, fun i j hi hj e => ?_, fun x hx => ?_, fun i j hi hj => ?_⟩
  · have := List.mem_of_getElem? (at_ i hi)
    exact List.mem_range.mp (p.mem_iff.mp this)
  · have h1 := at_ i hi
    have h2 := at_ j hj
    rw [e] at h1
    exact (List.getElem?_inj (by omega) nd).mp (h1.trans h2.symm)
  · have := p.mem_iff.mpr (List.mem_range.mpr hx)
    obtain ⟨i, hi, e⟩ := List.mem_iff_getElem.mp this
    refine ⟨i, by omega, ?_⟩
    rw [List.getD_eq_getElem?_getD, List.getElem?_eq_getElem hi]
    exact e
  · show ((cutT m os).getD i []).getD j 0 = _
    unfold cutT
    have e1 : (os.map fun i => os.map fun j => Tb.en m i j).getD i [] = os.map fun j => Tb.en m (os.getD i 0) j := by
      rw [List.getD_eq_getElem?_getD, List.getElem?_map, at_ i hi]
      rfl
    rw [e1, List.getD_eq_getElem?_getD, List.getElem?_map, at_ j hj]
    rfl
theorem tab_cut {m : Tb.M} (t : Tab m) {os : List Nat} (p : os.Perm (List.range m.length)) : Tab (cutT m os) := by
  have ol : os.length = m.length := by rw [p.length_eq, List.length_range]
  have lt : ∀ x ∈ os, x < m.length := fun x hx => List.mem_range.mp (p.mem_iff.mp hx)
  have cl : (cutT m os).length = m.length := by unfold cutT; rw [List.length_map, ol]
  refine ⟨fun r hr => ?_, fun r hr e he => ?_, by rw [cl]; exact t.n1, by rw [cl]; exact t.n24⟩
  · obtain ⟨i, hi, rfl⟩ := List.mem_map.mp hr
    rw [List.length_map, ol, cl]
  · obtain ⟨i, hi, rfl⟩ := List.mem_map.mp hr
    obtain ⟨j, hj, rfl⟩ := List.mem_map.mp he
    exact t.en (lt i hi) (lt j hj)
def spMoved (K : PySem.W.Frag) : Sp := fun vs H Q _ => ∃ (S a : Addr) (m : Tb.M), vs = [.ref S, .ref a] ∧ Sk H (some S) ∧ TbT K H a m ∧ Tab m ∧ ∀ H' q m' o, Rs (some S) H H' → TbT K H' q m' → Tab m' → Tb.Mv m m' o → Q (.ref q) H'
theorem tb_keep {H G : Hp} {a S L O : Addr} {m : Tb.M} (hS : Sk H (some S)) (hL : ∃ xs, H L = some (.lst xs)) (hO : ∃ xs, H O = some (.lst xs)) (kp : ∀ a o, a ≠ S → a ≠ L → a ≠ O → H a = some o → G a = some o) (h : TbT K H a m) : TbT K G a m := by
  obtain ⟨x, y, z, eS⟩ := hS
  obtain ⟨xl, eL⟩ := hL
  obtain ⟨xo, eO⟩ := hO
  have k1 : ∀ {c : Addr} {u : HO}, (∀ ys, u ≠ .lst ys) → H c = some u → G c = some u := fun {c u} hu hc => by
    refine kp c u (fun q => ?_) (fun q => ?_) (fun q => ?_) hc
    · rw [q, eS] at hc; cases hc; exact hu _ rfl
    · rw [q, eL] at hc; cases hc; exact hu _ rfl
    · rw [q, eO] at hc; cases hc; exact hu _ rfl
  have k2 : ∀ {c : Addr} {xs : List V}, SqT K H c xs → SqT K G c xs := fun {c xs} h => by
    rcases h with (h | ⟨u, h⟩) | h
    · exact .inl (.inl (k1 (fun _ q => nomatch q) h))
    · exact .inl (.inr ⟨u, k1 (fun _ q => nomatch q) h⟩)
    · exact .inr h
  obtain ⟨ps, h1, h2, h3⟩ := h
  exact ⟨ps, k2 h1, h2, fun i p x hp hr => let ⟨b, eb, hb⟩ := h3 i p x hp hr; ⟨b, eb, k2 hb⟩⟩
theorem ok__law_moved_table {f : Addr} {fd : FuncData} (F : Fun K "_law_moved_table" "_law_moved_table" st__law_moved_table f fd) (T : Txt K mg) : FnOk P w K mg base CX0 2 f fd ["basin", "table"] (spMoved K) := by
  have c__law_scoop : Cl P w K mg base 1 "_law_scoop" spDrawn := cl__law_scoop T
  have c__law_cut : Cl P w K mg base 1 "_law_cut" (spCut K) := cl__law_cut T
  refine F.ok sc__law_moved_table (fun vs H Q E h => ?_) (fun cdv A outer s H vs Q E hr h => ?_)
  · obtain ⟨S, a, m, rfl, _⟩ := h
    rfl
  · obtain ⟨S, a, m, rfl, hS, hT, t, k⟩ := h
    have n24 := t.n24
    refine ⟨_, (pss_cons (ps_par (i := 2) (j := 3) rfl sc__law_moved_table.nd rfl rfl (by decide) rfl rfl (pa_cons (pe_listRg rfl (by rfl) T.n_list (prg_1 (by rfl) T.n_range (pe_callB (kcall_len (K := K)) (by rfl) T.n_len bo_len (pa_cons (pv 1) pa_nil)))) (pa_cons (pe_lst pa_nil) pa_nil)) (by with_unfolding_all rfl)) (pss_cons (ps_while PassesOwn.never (pt_cmpR (kop_neD (K := K) hr.units) (pv 2) (pe_lst pa_nil) (nomark _)) (pss_one (ps_expr (pe_bm PySem.F.plainAttrs_list PySem.F.slot_list_append PySem.F.type_list_append mt_append (pv 3) (pa_cons (pe_bm PySem.F.plainAttrs_list PySem.F.slot_list_pop PySem.F.type_list_pop mt_popAt (pv 2) (pa_cons (pe_f c__law_scoop hr (by decide) rfl (pa_cons (pv 0) (pa_cons (pe_callB (kcall_len (K := K)) (by rfl) T.n_len bo_len (pa_cons (pv 2) pa_nil)) pa_nil))) pa_nil)) pa_nil))))) (pss_one (ps_ret (pe_f c__law_cut hr (by decide) rfl (pa_cons (pv 1) (pa_cons (pv 3) pa_nil))))))), ?_⟩
    refine par_LO (n := m.length) (es_lenTb rfl hT) (by omega) fun H1 L O e2 nL hO0 nLO gL2 gO => ?_
    have nSL : S ≠ L := sk_ne hS nL
    have nSO : S ≠ O := sk_ne hS hO0
    refine order_while (K := K) (L := L) (O := O) (n := m.length) rfl rfl rfl (hS.same e2) gL2 gO nLO nSL nSO (by omega) fun G os kp sG gO' pm => ?_
    have hTG : TbT K G a m := tb_keep (hS.same e2) ⟨_, gL2⟩ ⟨_, gO⟩ kp (tb_same e2 hT)
    have rs : Rs (some S) H G := ⟨hS, sG, fun b o nb hb => kp b o (fun q => nb (by rw [q])) (fun q => by rw [q, nL] at hb; cases hb) (fun q => by rw [q, hO0] at hb; cases hb) (e2 b o hb)⟩
    exact ⟨.ref a, rfl, .ref O, rfl, a, O, m, os, rfl, hTG, t, lst_of gO', by rw [pm.length_eq, List.length_range]; omega, fun x hx => List.mem_range.mp (pm.mem_iff.mp hx), fun H' q e hq => k H' q _ _ (rs.tr (.same sG e)) hq (tab_cut t pm) (mv_cut t pm)⟩
theorem cl__law_moved_table (T : Txt K mg) : Cl P w K mg base 2 "_law_moved_table" (spMoved K) := by
  obtain ⟨f, fd, F, hm, hb⟩ := T.f__law_moved_table
  exact cl_of (ok__law_moved_table F T) hm F.kp hb
/-! drawn tables -/
/-- a comprehension over range(n), its items drawn -/
theorem lc_rs {S : Addr} {g : TG} {te : TE} {vs : List Nat} {n : Nat} {P : Nat → V → Prop} {σ : L2.St} {H : Hp} {Q : VK} (τ : Nat → L2.St) (hS : Sk H (some S)) (hn : n ≤ 1000) (hg : ∀ i, i < n → ∀ H' Q, Q (τ i) H' → g (.int (i : Int)) (wipe σ vs) H' Q) (hw : ∀ i, i < n → wipe (τ i) vs = wipe σ vs)
    (he : ∀ i, i < n → ∀ G, Rs (some S) H G → ∀ R : VK, (∀ v G', Rs (some S) G G' → P i v → R v G') → te (τ i) G R) (q : ∀ D ys G, Rs (some S) H G → G D = some (.lst ys) → H D = none → ys.length = n → (∀ i y, ys[i]? = some y → P i y) → Q (.ref D) G) :
    tLc (fun _ H R => R (Itr 0 n) H) g tYes te vs σ H Q := fun D hD => by
  have nSD := sk_ne hS hD
  refine lc_it (walk_range (lo := 0) (n := n)) (fun i G => Rs (some S) H G ∧ ∃ ys, G D = some (.lst ys) ∧ ys.length = i ∧ ∀ j y, ys[j]? = some y → P j y) ⟨rs_new hS hD, [], upd_same, rfl, fun j y h => nomatch h⟩ (fun _ _ _ _ => True.intro) (fun i x G G' hi p y => ?_) fun G p => ?_
  · obtain ⟨rs, ys, gD, yl, hy⟩ := p
    obtain ⟨rfl, rfl⟩ := y
    show g (.int ((0 : Int) + (i : Int))) _ _ _
    rw [Int.zero_add]
    refine hg i hi _ _ ⟨hw i hi, ?_⟩
    unfold tYes
    dsimp only
    rw [if_pos rfl]
    refine he i hi _ rs _ fun v G2 r2 pv => ⟨ys, r2.keep _ _ (fun z => nSD (Option.some.inj z)) gD, small1000 (by omega), rs_mut (rs.tr r2) hD, ys ++ [v], upd_same, by rw [List.length_append, yl]; rfl, fun j y hj => ?_⟩
    by_cases z : j < ys.length
    · rw [List.getElem?_append_left z] at hj
      exact hy j y hj
    · rw [List.getElem?_append_right (by omega)] at hj
      cases z2 : j - ys.length with
      | succ k => rw [z2] at hj; cases hj
      | zero =>
        rw [z2] at hj
        cases hj
        have : j = i := by omega
        subst this
        exact pv
  · obtain ⟨rs, ys, gD, yl, hy⟩ := p
    exact q D ys G rs gD hD yl hy
theorem app_tup {te : TE} {σ : L2.St} {H : Hp} {i : Nat} {L : Addr} {D : Ends} (J : V → Hp → Prop) (hL : σ[i]? = some (some (.ref L))) (tL : ∃ xs, SqL K H L xs) (hc : ∀ Q' : VK, (∀ v G, J v G → Q' v G) → te σ H Q') (rest : ∀ v G, J v G → rTupOf K [v] G fun u G2 => rAppend (.ref L) [u] G2 fun _ G3 => D.nx σ G3) :
    tDrop (tBM K "list" rAppend (tVar i) (tCons (tCB (rTupOf K) (tCons te tNil)) tNil)) D σ H := ⟨.ref L, hL, .inl ⟨rfl, tL⟩, hc _ fun v G hv => rest v G hv⟩
def spTabD (K : PySem.W.Frag) : Sp := fun vs H Q _ => ∃ (S : Addr) (n : Nat) (most : Int), vs = [.ref S, .int (n : Int), .int most] ∧ Sk H (some S) ∧ n ≤ 24 ∧ 0 ≤ most ∧ most ≤ 100 ∧ ∀ H' q m, Rs (some S) H H' → TbT K H' q m → m.length = n → (∀ r ∈ m, r.length = n) → (∀ r ∈ m, ∀ e ∈ r, 0 ≤ e ∧ e ≤ 1000) → Q (.ref q) H'
theorem ints_of {ys : List V} {C : Int → Prop} (h : ∀ (i : Nat) (y : V), ys[i]? = some y → ∃ e, y = .int e ∧ C e) : ∃ es : List Int, ys = es.map V.int ∧ ∀ e ∈ es, C e := by
  induction ys with
  | nil => exact ⟨[], rfl, fun e he => absurd he (List.not_mem_nil)⟩
  | cons y ys ih =>
    obtain ⟨e, rfl, he⟩ := h 0 y rfl
    obtain ⟨es, h1, h2⟩ := ih fun i z hz => h (i + 1) z hz
    exact ⟨e :: es, by rw [h1]; rfl, fun x hx => (List.mem_cons.mp hx).elim (fun z => z ▸ he) (h2 x)⟩
theorem rwa_rs {H H1 : Hp} {S : Addr} {ps : List V} {rows : Tb.M} (r : Rs (some S) H H1) (h : RwA K H ps rows) : RwA K H1 ps rows := ⟨h.1, fun i p x hp hr => let ⟨b, eb, hb⟩ := h.2 i p x hp hr; ⟨b, eb, r.tup hb⟩⟩
theorem ok__law_drawn_table {f : Addr} {fd : FuncData} (F : Fun K "_law_drawn_table" "_law_drawn_table" st__law_drawn_table f fd) (T : Txt K mg) : FnOk P w K mg base CX0 3 f fd ["basin", "size", "most"] (spTabD K) := by
  have c__law_scoop : Cl P w K mg base 1 "_law_scoop" spDrawn := cl__law_scoop T
  have c__law_taken : Cl P w K mg base 2 "_law_taken" (spLiked K) := cl__law_taken T
  refine F.ok sc__law_drawn_table (fun vs H Q E h => ?_) (fun cdv A outer s H vs Q E hr h => ?_)
  · obtain ⟨S, n, most, rfl, _⟩ := h
    rfl
  · obtain ⟨S, n, most, rfl, hS, hn, m0, m1, k⟩ := h
    refine ⟨_, (pss_cons (ps_set (i := 3) sc__law_drawn_table.nd rfl (Or.inl rfl) (pe_lst pa_nil)) (pss_cons (ps_for PassesOwn.never rfl (pi_range1 rfl T.n_range (pa_cons (pv 1) pa_nil)) (pg_name (i := 4) sc__law_drawn_table.nd rfl (Or.inl rfl)) (pss_one (ps_expr (pe_bm PySem.F.plainAttrs_list PySem.F.slot_list_append PySem.F.type_list_append mt_append (pv 3) (pa_cons (pe_callTy (kcall_tuple (K := K)) (by rfl) T.n_tuple bo_tuple (pa_cons (pe_lc (own := [("to", 5)]) rfl sc__law_drawn_table.nd (pi_range1 rfl T.n_range (pa_cons (pv 1) pa_nil)) (blkOk_by (N := nm__law_drawn_table) (sc := defScope st__law_drawn_table) (by decide +kernel)) (fun _ _ _ _ _ => (pg_name (i := 5) sc__law_drawn_table.nd rfl (by first | exact Or.inl rfl | exact Or.inr rfl))) (fun _ _ _ _ _ => pts_nil) (fun _ _ _ _ _ => (pe_f c__law_taken hr (by decide) rfl (pa_cons (pv 0) (pa_cons (pe_lst (pa_cons pe_int (pa_cons pe_int (pa_cons pe_int (pa_cons pe_int (pa_cons pe_int (pa_cons (pe_f c__law_scoop hr (by decide) rfl (pa_cons (pv 0) (pa_cons (pe_op op_add (pv 2) pe_int) pa_nil))) pa_nil))))))) pa_nil))))) pa_nil)) pa_nil))))) (pss_one (ps_ret (pe_callTy (kcall_tuple (K := K)) (by rfl) T.n_tuple bo_tuple (pa_cons (pv 3) pa_nil)))))), ?_⟩
    refine ⟨Nat.zero_le _, fun L hL => ?_⟩
    have nSL := sk_ne hS hL
    refine ⟨.int (n : Int), rfl, (n : Int), rfl, by omega, by omega, for_range (lo := 0) (fun i τ G => Rs (some S) H G ∧ ∃ ps rows x4, τ = [some (.ref S), some (.int (n : Int)), some (.int most), some (.ref L), x4, none] ∧ G L = some (.lst ps) ∧ RwA K G ps rows ∧ rows.length = i ∧ (∀ r ∈ rows, r.length = n) ∧ ∀ r ∈ rows, ∀ e ∈ r, 0 ≤ e ∧ e ≤ 1000) ⟨rs_new hS hL, [], [], none, rfl, upd_same, rwa_nil, rfl, fun r hr => absurd hr (List.not_mem_nil), fun r hr => absurd hr (List.not_mem_nil)⟩ (fun i τ G hi p => ?_) fun τ G p => ?_⟩
    · obtain ⟨rs, ps, rows, x4, rfl, gL, rw_, rl, h1, h2⟩ := p
      have hi : i < n := by
        have : ((n : Int)).toNat = n := by omega
        omega
      rw [show (0 : Int) + ((i : Nat) : Int) = (i : Int) from Int.zero_add _]
      show tDrop _ _ [some (.ref S), some (.int (n : Int)), some (.int most), some (.ref L), some (natV i), none] G
      refine app_tup (fun v G1 => ∃ D ys, v = .ref D ∧ Rs (some S) G G1 ∧ G1 D = some (.lst ys) ∧ ys.length = n ∧ ∀ (i : Nat) (y : V), ys[i]? = some y → ∃ e, y = .int e ∧ 0 ≤ e ∧ e ≤ 1000) rfl ⟨_, lst_of gL⟩ (fun Q' hQ => ?_) fun v G1 hv => ?_
      · refine ⟨.int (n : Int), rfl, (n : Int), rfl, by omega, by omega, ?_⟩
        rw [Int.toNat_natCast]
        refine lc_rs (S := S) (n := n) (vs := [5]) (g := gName 5) (te := tFn (spLiked K) (tCons (tVar 0) (tCons (tLst (tCons (tC (.int 0)) (tCons (tC (.int 0)) (tCons (tC (.int 0)) (tCons (tC (.int 1)) (tCons (tC (.int 1)) (tCons (tFn spDrawn (tCons (tVar 0) (tCons (tOp (rI0 fun i j => V.int (i + j)) (tVar 2) (tC (.int 1))) tNil))) tNil))))))) tNil))) (Q := Q') (P := fun _ v => ∃ e, v = .int e ∧ 0 ≤ e ∧ e ≤ 1000) (σ := [some (.ref S), some (.int (n : Int)), some (.int most), some (.ref L), some (natV i), none]) (fun j => [some (.ref S), some (.int (n : Int)), some (.int most), some (.ref L), some (natV i), some (.int (j : Int))]) rs.s1 (by omega) (fun j hj H' Q q => q) (fun j hj => rfl) (fun j hj G1 r1 R hR => ?_) fun D ys G1 r1 gD nD yl hy => hQ _ _ ⟨D, ys, rfl, r1, gD, yl, hy⟩
        refine ⟨.ref S, rfl, .ref S, rfl, .int most, rfl, most, 1, rfl, rfl, S, most + 1, rfl, r1.s1, by omega, Int.lt_of_le_of_lt (b := 1000) (by omega) (by decide), fun G2 e r2 e0 e1 => ⟨by show 6 ≤ sizeLine; decide, fun l hl => ?_⟩⟩
        refine ⟨S, l, _, rfl, (r2.s1).same (new_same hl), sk_ne r2.s1 hl, lst_of upd_same, by simp, by show 6 ≤ 100000; decide, fun G3 j v r3 hv => hR v G3 ((r2.tr (.same r2.s1 (new_same hl))).tr r3) ?_⟩
        have : v ∈ [V.int 0, V.int 0, V.int 0, V.int 1, V.int 1, V.int e] := List.mem_of_getElem? hv
        simp only [List.mem_cons, List.not_mem_nil, or_false] at this
        rcases this with rfl | rfl | rfl | rfl | rfl | rfl
        · exact ⟨0, rfl, by omega, by omega⟩
        · exact ⟨0, rfl, by omega, by omega⟩
        · exact ⟨0, rfl, by omega, by omega⟩
        · exact ⟨1, rfl, by omega, by omega⟩
        · exact ⟨1, rfl, by omega, by omega⟩
        · exact ⟨e, rfl, by omega, by omega⟩
      · obtain ⟨D, ys, rfl, r1, gD, yl, hy⟩ := hv
        obtain ⟨es, ey, he⟩ := ints_of hy
        subst ey
        rw [List.length_map] at yl
        refine ⟨D, _, rfl, .inl ⟨lst_of gD, fun l hl => ?_⟩⟩
        have sl := new_same (o := .tup (es.map V.int)) hl
        have gL1 : upd G1 l (.tup (es.map V.int)) L = some (.lst ps) := sl _ _ (r1.keep _ _ (fun z => nSL (Option.some.inj z)) gL)
        have rs2 := (rs.tr r1).tr (.same r1.s1 sl)
        have rw2 := rwa_same sl (rwa_rs r1 rw_)
        have pl : ps.length ≤ 24 := by rw [rw_.1]; omega
        refine ⟨L, ps, .ref l, rfl, rfl, gL1, small1000 (by omega), rs_mut rs2 hL, ps ++ [.ref l], rows ++ [es], _, rfl, upd_same, rwa_mutl gL1 (rwa_snoc rw2 (tup_of upd_same)), by rw [List.length_append, rl]; rfl, fun r hr => ?_, fun r hr => ?_⟩
        · rcases List.mem_append.mp hr with hr | hr
          · exact h1 r hr
          · rw [List.mem_singleton.mp hr]; exact yl
        · rcases List.mem_append.mp hr with hr | hr
          · exact h2 r hr
          · rw [List.mem_singleton.mp hr]; exact he
    · obtain ⟨rs, ps, rows, x4, rfl, gL, rw_, rl, h1, h2⟩ := p
      have hn : ((n : Int)).toNat = n := by omega
      rw [hn] at rl
      refine ⟨.ref L, rfl, L, _, rfl, .inl ⟨lst_of gL, fun q hq => k _ q rows (rs.tr (.same rs.s1 (new_same hq))) (tb_of (tup_of upd_same) (rwa_same (new_same hq) rw_)) rl h1 h2⟩⟩
theorem cl__law_drawn_table (T : Txt K mg) : Cl P w K mg base 3 "_law_drawn_table" (spTabD K) := by
  obtain ⟨f, fd, F, hm, hb⟩ := T.f__law_drawn_table
  exact cl_of (ok__law_drawn_table F T) hm F.kp hb
/-! lists of lists that are changed in place -/
structure LL (G : Hp) (F : Addr) (ls : List Addr) (m : Tb.M) : Prop where
  f : G F = some (.lst (ls.map V.ref))
  nd : ls.Nodup
  nF : F ∉ ls
  len : ls.length = m.length
  at_ : ∀ (i : Nat) (l : Addr) (r : List Int), ls[i]? = some l → m[i]? = some r → G l = some (.lst (r.map V.int))
theorem ll_same {G G1 : Hp} {F : Addr} {ls : List Addr} {m : Tb.M} (e : Same G G1) (h : LL G F ls m) : LL G1 F ls m := ⟨e _ _ h.f, h.nd, h.nF, h.len, fun i l r hl hr => e _ _ (h.at_ i l r hl hr)⟩
theorem ll_keep {G G1 : Hp} {F : Addr} {ls : List Addr} {m : Tb.M} (e : ∀ b o, (b = F ∨ b ∈ ls) → G b = some o → G1 b = some o) (h : LL G F ls m) : LL G1 F ls m := ⟨e _ _ (.inl rfl) h.f, h.nd, h.nF, h.len, fun i l r hl hr => e _ _ (.inr (List.mem_of_getElem? hl)) (h.at_ i l r hl hr)⟩
theorem ll_snoc {G G1 : Hp} {F l : Addr} {ls : List Addr} {m : Tb.M} {r : List Int} (h : LL G F ls m) (e : ∀ b o, (b = F ∨ b ∈ ls) → G b = some o → G1 b = some o) (nl : G l = none) (hl : G1 l = some (.lst (r.map V.int))) : LL (upd G1 F (.lst (ls.map V.ref ++ [.ref l]))) F (ls ++ [l]) (m ++ [r]) := by
  have lF : l ≠ F := fun z => by rw [z, h.f] at nl; cases nl
  have lls : l ∉ ls := fun z => by
    obtain ⟨i, hi, ei⟩ := List.mem_iff_getElem.mp z
    have := h.at_ i l _ (by rw [List.getElem?_eq_getElem hi, ei]) (List.getElem?_eq_getElem (show i < m.length by rw [← h.len]; exact hi))
    rw [nl] at this
    cases this
  refine ⟨by rw [upd_same, List.map_append]; rfl, ?_, fun z => ?_, by rw [List.length_append, List.length_append, h.len]; rfl, fun i l' r' hl' hr' => ?_⟩
  · rw [List.nodup_append]
    exact ⟨h.nd, by simp, fun a ha b hb => by rw [List.mem_singleton.mp hb]; exact fun q => lls (q ▸ ha)⟩
  · rcases List.mem_append.mp z with z | z
    · exact h.nF z
    · exact lF (List.mem_singleton.mp z).symm
  · by_cases q : i < ls.length
    · rw [List.getElem?_append_left q] at hl'
      rw [List.getElem?_append_left (by rw [← h.len]; exact q)] at hr'
      rw [upd_ne (fun z => h.nF (by rw [← z]; exact List.mem_of_getElem? hl'))]
      exact e _ _ (.inr (List.mem_of_getElem? hl')) (h.at_ i l' r' hl' hr')
    · rw [List.getElem?_append_right (by omega)] at hl'
      rw [List.getElem?_append_right (by rw [← h.len]; omega), ← h.len] at hr'
      cases z : i - ls.length with
      | succ k => rw [z] at hl'; cases hl'
      | zero =>
        rw [z] at hl' hr'
        cases hl'
        cases hr'
        rw [upd_ne lF]
        exact hl
/-- the entry at i, j is v from now on -/
def setE (m : Tb.M) (i j : Nat) (v : Int) : Tb.M := m.set i ((m.getD i []).set j v)
theorem ll_set {G : Hp} {F l : Addr} {ls : List Addr} {m : Tb.M} {i j : Nat} {v : Int} (h : LL G F ls m) (hl : ls[i]? = some l) : LL (upd G l (.lst (((m.getD i []).set j v).map V.int))) F ls (setE m i j v) := by
  have il : i < ls.length := (List.getElem?_eq_some_iff.mp hl).1
  have lF : l ≠ F := fun z => h.nF (by rw [← z]; exact List.mem_of_getElem? hl)
  refine ⟨by rw [upd_ne (Ne.symm lF)]; exact h.f, h.nd, h.nF, by unfold setE; rw [List.length_set]; exact h.len, fun i' l' r' hl' hr' => ?_⟩
  unfold setE at hr'
  by_cases q : i' = i
  · subst q
    rw [hl] at hl'
    cases hl'
    rw [List.getElem?_set_self (by rw [← h.len]; exact il)] at hr'
    cases hr'
    exact upd_same
  · rw [List.getElem?_set_ne (Ne.symm q)] at hr'
    have : l' ≠ l := fun z => by
      rw [z, ← hl] at hl'
      have h1 : i' < ls.length := by
        rw [hl] at hl'
        exact (List.getElem?_eq_some_iff.mp hl').1
      exact q ((List.getElem?_inj h1 h.nd).mp hl')
    rw [upd_ne this]
    exact h.at_ i' l' r' hl' hr'
theorem en_set {m : Tb.M} {i j i' j' : Nat} {v : Int} (hi : i < m.length) (hj : j < (m.getD i []).length) : Tb.en (setE m i j v) i' j' = if i' = i ∧ j' = j then v else Tb.en m i' j' := by
  unfold Tb.en setE
  by_cases q : i' = i
  · subst q
    rw [List.getD_eq_getElem?_getD (l := m.set i' _), List.getElem?_set_self hi]
    show (((m.getD i' []).set j v).getD j' 0) = _
    by_cases q2 : j' = j
    · subst q2
      rw [if_pos ⟨rfl, rfl⟩, List.getD_eq_getElem?_getD, List.getElem?_set_self hj]
      rfl
    · rw [if_neg (fun z => q2 z.2), List.getD_eq_getElem?_getD (l := (m.getD i' []).set j v), List.getElem?_set_ne (Ne.symm q2), ← List.getD_eq_getElem?_getD]
  · rw [if_neg (fun z => q z.1), List.getD_eq_getElem?_getD (l := m.set i _), List.getElem?_set_ne (Ne.symm q), ← List.getD_eq_getElem?_getD]
/-- a comprehension whose items are new lists -/
theorem lc_new {J : It} {g : TG} {te : TE} {vs : List Nat} {xs : List V} {σ : L2.St} {H : Hp} {Q : VK} (zs : Nat → List Int) (τ : Nat → L2.St) (wk : Walk J xs.length (fun G => Same H G) (YAt xs)) (hn : xs.length ≤ 1000) (hg : ∀ i x, xs[i]? = some x → ∀ H' Q, Q (τ i) H' → g x (wipe σ vs) H' Q) (hw : ∀ i, i < xs.length → wipe (τ i) vs = wipe σ vs)
    (he : ∀ i x, xs[i]? = some x → ∀ G, Same H G → ∀ R : VK, (∀ l G', Same G G' → G l = none → G' l = some (.lst ((zs i).map V.int)) → R (.ref l) G') → te (τ i) G R) (q : ∀ F ls G, Same H G → H F = none → LL G F ls ((List.range xs.length).map zs) → (∀ l ∈ ls, H l = none) → Q (.ref F) G) :
    tLc (fun _ H R => R J H) g tYes te vs σ H Q := fun D hD => by
  refine lc_it wk (fun i G => Same H G ∧ ∃ ls, LL G D ls ((List.range i).map zs) ∧ ∀ l ∈ ls, H l = none) ⟨new_same hD, [], ⟨upd_same, List.nodup_nil, List.not_mem_nil, rfl, fun i l r hl => nomatch hl⟩, fun l hl => absurd hl (List.not_mem_nil)⟩ (fun i G _ p => p.1) (fun i x G G' hi p y => ?_) fun G p => ?_
  · obtain ⟨e, ls, hll, fr⟩ := p
    obtain ⟨rfl, hx⟩ := y
    refine hg i x hx _ _ ⟨hw i hi, ?_⟩
    unfold tYes
    dsimp only
    rw [if_pos rfl]
    refine he i x hx _ e _ fun l G2 e2 nl hl => ⟨ls.map V.ref, e2 _ _ hll.f, small1000 (by rw [List.length_map, hll.len, List.length_map, List.length_range]; omega), same_mut hD (Same.trans e e2), ls ++ [l], ?_, fun l' hl' => ?_⟩
    · rw [List.range_succ, List.map_append]
      exact ll_snoc hll (fun b o _ => e2 b o) nl hl
    · rcases List.mem_append.mp hl' with h | h
      · exact fr l' h
      · rw [List.mem_singleton.mp h]
        exact Same.free e nl
  · obtain ⟨e, ls, hll, fr⟩ := p
    exact q D ls G e hD hll fr
section
variable {σ : L2.St} {H : Hp}
theorem es_ixLx {tl te : TE} {l : Addr} {ys : List V} {j : Nat} {y : V} (ht : EvS tl σ H (IsV (.ref l))) (hl : H l = some (.lst ys)) (he : EvS te σ H (IsV (.int (j : Int)))) (hy : ys[j]? = some y) : EvS (tOp (rIxL K) tl te) σ H (IsV y) := fun H1 e Q q =>
  ht H1 e _ fun u H2 e2 eu => he H2 (Same.trans e e2) _ fun v H3 e3 ev => ⟨l, ys, (j : Int), y, eu, ev, lst_of ((Same.trans (Same.trans e e2) e3) _ _ hl), atI_nat hy, q y H3 (Same.trans e2 e3) rfl⟩
/-- order[1:] + order[:1] -/
theorem es_rot {i : Nat} {O : Addr} {os : List Nat} (hv : σ[i]? = some (some (.ref O))) (hO : H O = some (.lst (os.map natV))) (hz : os.length ≤ 1000) : EvS (tOp rCat (tSl (rSlL K) (tVar i) (tPart (tC (.int 1))) tNoPart) (tSl (rSlL K) (tVar i) tNoPart (tPart (tC (.int 1))))) σ H (NewL H ((os.drop 1 ++ os.take 1).map natV)) := fun H1 e Q q => by
  have hO1 := e _ _ hO
  have c1 : cutV (os.map natV) (some 1) none = (os.drop 1).map natV := by
    rw [natV_map, cut_map, show (some (1 : Int)) = some ((1 : Nat) : Int) from rfl, cutI_from, ← List.map_drop, ← natV_map]
  have c2 : cutV (os.map natV) none (some 1) = (os.take 1).map natV := by
    rw [natV_map, cut_map, show (some (1 : Int)) = some ((1 : Nat) : Int) from rfl, cutI_to, ← List.map_take, ← natV_map]
  refine ⟨.ref O, hv, 1, rfl, nopart ⟨O, _, rfl, lst_of hO1, fun p hp => ?_⟩⟩
  have s1 := new_same (o := .lst (cutV (os.map natV) (some 1) none)) hp
  refine ⟨.ref O, hv, 1, rfl, O, _, rfl, lst_of (s1 _ _ hO1), fun p2 hp2 => ?_⟩
  have np : p ≠ p2 := fun z => by rw [← z, upd_same] at hp2; cases hp2
  refine ⟨p, p2, _, _, rfl, rfl, by rw [upd_ne np]; exact upd_same, upd_same, ?_, fun r hr => ?_⟩
  · rw [c1, c2]
    exact Nat.le_of_lt (small1000 (by rw [List.length_map, List.length_map, List.length_drop, List.length_take]; omega))
  · have s2 := new_same (o := .lst (cutV (os.map natV) none (some 1))) hp2
    have s3 := Same.trans (Same.trans s1 s2) (new_same (o := .lst (cutV (os.map natV) (some 1) none ++ cutV (os.map natV) none (some 1))) hr)
    exact q _ _ s3 ⟨r, rfl, by rw [upd_same, c1, c2, ← List.map_append], Same.free e (Same.free s1 (Same.free s2 hr))⟩
/-- tuple([tuple(row) for row in found]) -/
theorem es_tupLL {i j : Nat} {g : TG} {vs : List Nat} {F : Addr} {ls : List Addr} {m : Tb.M} (τ : V → L2.St) (hv : σ[i]? = some (some (.ref F))) (h : LL H F ls m) (hz : m.length ≤ 1000) (hg : ∀ x H' Q, Q (τ x) H' → g x (wipe σ vs) H' Q) (hw : ∀ x, wipe (τ x) vs = wipe σ vs) (hj : ∀ x, (τ x)[j]? = some (some x)) :
    EvS (tCB (rTupOf K) (tCons (tLc (iList K (tVar i)) g tYes (tCB (rTupOf K) (tCons (tVar j) tNil)) vs) tNil)) σ H (fun v H' => ∃ q, v = .ref q ∧ TbT K H' q m) := es_cb1 (P := fun v H' => ∃ (D : Addr) (ys : List V), v = .ref D ∧ H' D = some (.lst ys) ∧ H D = none ∧ ys.length = (ls.map V.ref).length ∧ ∀ (i : Nat) (y : V), ys[i]? = some y → ∀ r, m[i]? = some r → ∃ b, y = .ref b ∧ SqT K H' b (r.map V.int))
  (es_lcN (P := fun i y H => ∀ r, m[i]? = some r → ∃ b, y = .ref b ∧ SqT K H b (r.map V.int)) τ (fun i y G G1 e h x hx => let ⟨b, eb, hb⟩ := h x hx; ⟨b, eb, same_tup e hb⟩) (fun i y G D zs o d h x hx => let ⟨b, eb, hb⟩ := h x hx; ⟨b, eb, tup_mutl d hb⟩) (ei_list (es_seqL hv (lst_of h.f))) (by rw [List.length_map, h.len]; omega) (fun x _ H' Q q => hg x H' Q q) (fun x _ => hw x)
    (fun k x hx => by
      rw [List.getElem?_map] at hx
      cases z : ls[k]? with
      | none => rw [z] at hx; cases hx
      | some l =>
        rw [z] at hx
        cases hx
        have kl : k < m.length := by rw [← h.len]; exact (List.getElem?_eq_some_iff.mp z).1
        have hl := h.at_ k l _ z (row_at kl)
        exact fun G e Q q => ⟨.ref l, hj _, l, _, rfl, .inl ⟨lst_of (e _ _ hl), fun t ht => q _ _ (new_same ht) fun r hr => by
          rw [row_at kl] at hr
          cases hr
          exact ⟨t, rfl, tup_of upd_same⟩⟩⟩)) fun v H2 e2 ⟨D, ys, ev, dD, nD, yl, hy⟩ Q q => by
    subst ev
    refine ⟨D, ys, rfl, .inl ⟨lst_of dD, fun l hl => q _ _ (new_same hl) ⟨l, rfl, ys, tup_of upd_same, by rw [yl, List.length_map, h.len], fun i p r hp hr => ?_⟩⟩⟩
    obtain ⟨b, eb, hb⟩ := hy i p hp r hr
    exact ⟨b, eb, same_tup (new_same hl) hb⟩
end
theorem rot_at {os : List Nat} {k : Nat} (hk : k < os.length) : (os.drop 1 ++ os.take 1)[k]? = os[(k + 1) % os.length]? := by
  by_cases h : k + 1 < os.length
  · rw [Nat.mod_eq_of_lt h, List.getElem?_append_left (by rw [List.length_drop]; omega), List.getElem?_drop, Nat.add_comm]
  · have : k + 1 = os.length := by omega
    rw [this, Nat.mod_self, List.getElem?_append_right (by rw [List.length_drop]; omega), List.length_drop]
    have e : k - (os.length - 1) = 0 := by omega
    rw [e]
    cases os with
    | nil => rfl
    | cons x xs => rfl
def spHung (K : PySem.W.Frag) : Sp := fun vs H Q _ => ∃ (S : Addr) (n : Nat) (most : Int), vs = [.ref S, .int (n : Int), .int most] ∧ Sk H (some S) ∧ 1 ≤ n ∧ n ≤ 24 ∧ 0 ≤ most ∧ most ≤ 100 ∧ ∀ H' q m, Rs (some S) H H' → TbT K H' q m → m.length = n → Tab m → Tb.Hg m → Q (.ref q) H'
/-- a square of numbers from 0 to 1000 -/
structure Sqr (m : Tb.M) (n : Nat) : Prop where
  len : m.length = n
  row : ∀ r ∈ m, r.length = n
  bd : ∀ r ∈ m, ∀ e ∈ r, 0 ≤ e ∧ e ≤ 1000
theorem Sqr.set {m : Tb.M} {n : Nat} (s : Sqr m n) {i j : Nat} {v : Int} (hi : i < n) (h0 : 0 ≤ v) (h1 : v ≤ 1000) : Sqr (setE m i j v) n := by
  have mi : m.getD i [] ∈ m := row_mem (by rw [s.len]; exact hi)
  refine ⟨by unfold setE; rw [List.length_set]; exact s.len, fun r hr => ?_, fun r hr e he => ?_⟩
  · rcases List.mem_or_eq_of_mem_set hr with h | h
    · exact s.row r h
    · rw [h, List.length_set]
      exact s.row _ mi
  · rcases List.mem_or_eq_of_mem_set hr with h | h
    · exact s.bd r h e he
    · rw [h] at he
      rcases List.mem_or_eq_of_mem_set he with h | h
      · exact s.bd _ mi e h
      · rw [h]; exact ⟨h0, h1⟩
theorem rs_free {H H1 : Hp} {S l : Addr} (r : Rs (some S) H H1) (h : H1 l = none) : H l = none := by
  cases z : H l with
  | none => rfl
  | some o =>
    have := r.keep l o (fun q => sk_ne r.s1 h (Option.some.inj q)) z
    rw [h] at this
    cases this
theorem ok__law_hung_table {f : Addr} {fd : FuncData} (F : Fun K "_law_hung_table" "_law_hung_table" st__law_hung_table f fd) (T : Txt K mg) : FnOk P w K mg base CX0 4 f fd ["basin", "size", "most"] (spHung K) := by
  have c__law_scoop : Cl P w K mg base 1 "_law_scoop" spDrawn := cl__law_scoop T
  have c__law_drawn_table : Cl P w K mg base 3 "_law_drawn_table" (spTabD K) := cl__law_drawn_table T
  refine F.ok sc__law_hung_table (fun vs H Q E h => ?_) (fun cdv A outer s H vs Q E hr h => ?_)
  · obtain ⟨S, n, most, rfl, _⟩ := h
    rfl
  · obtain ⟨S, n, most, rfl, hS, n1, n24, m0, m1, k⟩ := h
    refine ⟨_, (pss_cons (ps_par (i := 3) (j := 4) rfl sc__law_hung_table.nd rfl rfl (by decide) rfl rfl (pa_cons (pe_listRg rfl (by rfl) T.n_list (prg_1 (by rfl) T.n_range (pv 1))) (pa_cons (pe_lst pa_nil) pa_nil)) (by with_unfolding_all rfl)) (pss_cons (ps_while PassesOwn.never (pt_cmpR (kop_neD (K := K) hr.units) (pv 3) (pe_lst pa_nil) (nomark _)) (pss_one (ps_expr (pe_bm PySem.F.plainAttrs_list PySem.F.slot_list_append PySem.F.type_list_append mt_append (pv 4) (pa_cons (pe_bm PySem.F.plainAttrs_list PySem.F.slot_list_pop PySem.F.type_list_pop mt_popAt (pv 3) (pa_cons (pe_f c__law_scoop hr (by decide) rfl (pa_cons (pv 0) (pa_cons (pe_callB (kcall_len (K := K)) (by rfl) T.n_len bo_len (pa_cons (pv 3) pa_nil)) pa_nil))) pa_nil)) pa_nil))))) (pss_cons (ps_setLc (i := 5) (own := [("row", 8)]) rfl sc__law_hung_table.nd rfl rfl (sw_true rfl rfl rfl (by decide +kernel)) (kpi_tup (K := K) (pe_f c__law_drawn_table hr (by decide) rfl (pa_cons (pv 0) (pa_cons (pv 1) (pa_cons (pv 2) pa_nil))))) (blkOk_by (N := nm__law_hung_table) (sc := defScope st__law_hung_table) (by decide +kernel)) (fun _ _ _ _ _ => (pg_name (i := 8) sc__law_hung_table.nd rfl (by first | exact Or.inl rfl | exact Or.inr rfl))) (fun _ _ _ _ _ => pts_nil) (fun _ _ _ _ _ => (pe_callTy (kcall_list (K := K)) (by rfl) T.n_list bo_list (pa_cons (pv 8) pa_nil)))) (pss_cons (ps_if (pt_cmpR op_eq (pe_f c__law_scoop hr (by decide) rfl (pa_cons (pv 0) (pa_cons pe_int pa_nil))) pe_int (nomark _)) (pss_one (ps_setLc (i := 5) (own := [("at", 6)]) rfl sc__law_hung_table.nd rfl rfl (sw_true rfl rfl rfl (by decide +kernel)) (pi_range1 rfl T.n_range (pa_cons (pv 1) pa_nil)) (blkOk_by (N := nm__law_hung_table) (sc := defScope st__law_hung_table) (by decide +kernel)) (fun _ _ _ _ _ => (pg_name (i := 6) sc__law_hung_table.nd rfl (by first | exact Or.inl rfl | exact Or.inr rfl))) (fun _ _ _ _ _ => pts_nil) (fun _ _ _ _ _ => (pe_op op_rep (pe_lst (pa_cons pe_int pa_nil)) (pv 1))))) pss_nil) (pss_cons (ps_for PassesOwn.never rfl (RZ.pi_zipA rfl T.n_zip (pa_cons (pv 4) (pa_cons (pe_op op_cat (pe_slice (ksl_list (K := K)) (pv 4) (po_some pe_int) po_none) (pe_slice (ksl_list (K := K)) (pv 4) po_none (po_some pe_int))) pa_nil))) (kpg_tup (K := K) (n := 2) rfl (pgs_cons (pg_name (i := 6) sc__law_hung_table.nd rfl (Or.inl rfl)) (pgs_cons (pg_name (i := 7) sc__law_hung_table.nd rfl (Or.inl rfl)) pgs_nil))) (pss_one (ps_asg (pe_callB (call_max2 rfl) (by rfl) T.n_max bo_max (pa_cons pe_int (pa_cons (pe_ix (kix_list (K := K)) (pe_ix (kix_list (K := K)) (pv 5) (pv 6) (fun _ _ => rfl)) (pv 7) (fun _ _ => rfl)) pa_nil))) (pg_sub (pe_ix (kix_list (K := K)) (pv 5) (pv 6) (fun _ _ => rfl)) (pv 7) set_list)))) (pss_one (ps_ret (pe_callTy (kcall_tuple (K := K)) (by rfl) T.n_tuple bo_tuple (pa_cons (pe_lc (own := [("row", 8)]) rfl sc__law_hung_table.nd (kpi_list (K := K) (pv 5)) (blkOk_by (N := nm__law_hung_table) (sc := defScope st__law_hung_table) (by decide +kernel)) (fun _ _ _ _ _ => (pg_name (i := 8) sc__law_hung_table.nd rfl (by first | exact Or.inl rfl | exact Or.inr rfl))) (fun _ _ _ _ _ => pts_nil) (fun _ _ _ _ _ => (pe_callTy (kcall_tuple (K := K)) (by rfl) T.n_tuple bo_tuple (pa_cons (pv 8) pa_nil)))) pa_nil))))))))), ?_⟩
    refine par_LO (n := n) (es_vV rfl) (by omega) fun H1 L O e2 nL hO0 nLO gL2 gO => ?_
    have nSL : S ≠ L := sk_ne hS nL
    have nSO : S ≠ O := sk_ne hS hO0
    refine order_while (K := K) (L := L) (O := O) (n := n) rfl rfl rfl (hS.same e2) gL2 gO nLO nSL nSO (by omega) fun G os kp sG gO' pm => ?_
    have rs : Rs (some S) H G := ⟨hS, sG, fun b o nb hb => kp b o (fun q => nb (by rw [q])) (fun q => by rw [q, nL] at hb; cases hb) (fun q => by rw [q, hO0] at hb; cases hb) (e2 b o hb)⟩
    clear kp gO gL2 e2
    have ol : os.length = n := by rw [pm.length_eq, List.length_range]
    have olt : ∀ x ∈ os, x < n := fun x hx => List.mem_range.mp (pm.mem_iff.mp hx)
    refine asg_jn (fun v G2 => ∃ F ls m, v = .ref F ∧ Rs (some S) G G2 ∧ G2 O = some (.lst (os.map natV)) ∧ LL G2 F ls m ∧ (∀ l ∈ ls, l ≠ S ∧ l ≠ O ∧ G l = none) ∧ F ≠ S ∧ F ≠ O ∧ Sqr m n) (fun Q' hQ => ?_) fun v G2 hv => ?_
    · refine ⟨.ref S, rfl, .int (n : Int), rfl, .int most, rfl, S, n, most, rfl, sG, by omega, m0, m1, fun G1 q m r1 hq ml h1 h2 => ?_⟩
      obtain ⟨ps, t1, t2, t3⟩ := id hq
      have gO1 : G1 O = some (.lst (os.map natV)) := r1.keep _ _ (fun z => nSO (Option.some.inj z)) gO'
      have key : tLc (fun _ H R => R (Itt K q) H) (gName 8) tYes (tCB (rListOf K) (tCons (tVar 8) tNil)) [8] [some (.ref S), some (.int (n : Int)), some (.int most), some (.ref L), some (.ref O), none, none, none, none] G1 Q' := lc_new (xs := ps) (fun i => m.getD i []) (fun i => [some (.ref S), some (.int (n : Int)), some (.int most), some (.ref L), some (.ref O), none, none, none, ps[i]?]) (walk_tupS t1) (by omega) (fun i x hx H' Q q => by rw [hx] at q; exact q) (fun i hi => rfl) (fun i x hx Gx ex R hR => ?_) fun F ls Gx ex nF hll fr => ?_
      · exact ⟨q, rfl, ⟨ps, t1⟩, key⟩
      · obtain ⟨b, rfl, hb⟩ := t3 i x _ hx (row_at (show i < m.length by rw [← t2]; exact (List.getElem?_eq_some_iff.mp hx).1))
        exact ⟨.ref b, by show some ps[i]? = _; rw [hx], b, _, rfl, .inr (same_tup ex hb), fun l hl => hR l _ (new_same hl) hl upd_same⟩
      · have em : (List.range ps.length).map (fun i => m.getD i []) = m := by
          refine List.ext_getElem? fun i => ?_
          rw [List.getElem?_map]
          by_cases hi : i < m.length
          · rw [List.getElem?_range (by omega), row_at hi]
            rfl
          · rw [List.getElem?_eq_none (by rw [List.length_range]; omega), List.getElem?_eq_none (by omega)]
            rfl
        rw [em] at hll
        have nSx : ∀ {l}, G1 l = none → l ≠ S := fun {l} hl => (sk_ne r1.s1 hl).symm
        exact hQ _ _ ⟨F, ls, m, rfl, r1.tr (.same r1.s1 ex), ex _ _ gO1, hll, fun l hl => ⟨nSx (fr l hl), (fun z => by have := fr l hl; rw [z, gO1] at this; cases this), rs_free r1 (fr l hl)⟩, nSx nF, (fun z => by rw [z, gO1] at nF; cases nF), ml, h1, h2⟩
    obtain ⟨F, ls, m, rfl, r2, gO2, hll, nls, nFS, nFO, sq⟩ := hv
    refine if_join (fun τ G3 => ∃ F ls m x6 x7 x8, τ = [some (.ref S), some (.int (n : Int)), some (.int most), some (.ref L), some (.ref O), some (.ref F), x6, x7, x8] ∧ Rs (some S) G G3 ∧ G3 O = some (.lst (os.map natV)) ∧ LL G3 F ls m ∧ (∀ l ∈ ls, l ≠ S ∧ l ≠ O ∧ G l = none) ∧ F ≠ S ∧ F ≠ O ∧ Sqr m n) (fun τ G3 hJ => ?_) fun x' hx' => ?_
    · obtain ⟨F, ls, m, x6, x7, x8, rfl, r3, gO3, hll, nls, nFS, nFO, sq⟩ := hJ
      refine ⟨.ref O, rfl, es_rot (K := K) (i := 4) rfl gO3 (by omega) G3 (Same.refl _) _ fun v G4 e4 hv => ?_⟩
      obtain ⟨Z, rfl, gZ, nZ⟩ := hv
      have nlZ : ∀ l ∈ ls, l ≠ Z := fun l hl z => by
        obtain ⟨i, hi, ei⟩ := List.mem_iff_getElem.mp hl
        have := hll.at_ i l _ (by rw [List.getElem?_eq_getElem hi, ei]) (List.getElem?_eq_getElem (show i < m.length by rw [← hll.len]; exact hi))
        rw [z, nZ] at this
        cases this
      have hmin : n = min (os.map natV).length ((os.drop 1 ++ os.take 1).map natV).length := by
        rw [List.length_map, List.length_map, List.length_append, List.length_drop, List.length_take]
        omega
      refine ⟨O, Z, _, _, rfl, .inl ⟨lst_of (e4 _ _ gO3), lst_of gZ, for_it (walk_zip (K := K) (a := O) (b := Z) (xs := os.map natV) (ys := (os.drop 1 ++ os.take 1).map natV) hmin) (fun j τ G5 => ∃ m x6 x7, τ = [some (.ref S), some (.int (n : Int)), some (.int most), some (.ref L), some (.ref O), some (.ref F), x6, x7, x8] ∧ Rs (some S) G G5 ∧ G5 O = some (.lst (os.map natV)) ∧ G5 Z = some (.lst ((os.drop 1 ++ os.take 1).map natV)) ∧ LL G5 F ls m ∧ Sqr m n ∧ ∀ p, p < j → 0 < Tb.en m (os.getD p 0) (os.getD ((p + 1) % n) 0)) ⟨m, x6, x7, rfl, r3.tr (.same r3.s1 e4), e4 _ _ gO3, gZ, ll_same e4 hll, sq, fun p hp => absurd hp (Nat.not_lt_zero _)⟩ (fun j τ G5 _ p => by obtain ⟨m, x6, x7, _, _, h1, h2, _⟩ := p; exact ⟨lst_of h1, lst_of h2⟩) (fun j x τ G5 G6 hj p y => ?_) fun τ G5 p => ?_⟩⟩
      · obtain ⟨m, x6, x7, rfl, r5, gO5, gZ5, hll5, sq5, hp5⟩ := p
        obtain ⟨t, u, v, rfl, ht, rfl, hu, hv⟩ := y
        have sT := new_same (o := .tup [u, v]) ht
        have oj : os[j]? = some (os.getD j 0) := by rw [List.getD_eq_getElem?_getD, List.getElem?_eq_getElem (show j < os.length by omega)]; rfl
        have hjn : (j + 1) % n < n := Nat.mod_lt _ (by omega)
        have oj1 : os[(j + 1) % n]? = some (os.getD ((j + 1) % n) 0) := by rw [List.getD_eq_getElem?_getD, List.getElem?_eq_getElem (show (j + 1) % n < os.length by omega)]; rfl
        have eu : u = natV (os.getD j 0) := by
          have hu : (os.map natV)[j]? = some u := hu
          rw [List.getElem?_map, oj] at hu
          exact (Option.some.inj hu).symm
        have ev : v = natV (os.getD ((j + 1) % n) 0) := by
          have hv : ((os.drop 1 ++ os.take 1).map natV)[j]? = some v := hv
          rw [List.getElem?_map, rot_at (by omega), ol, oj1] at hv
          exact (Option.some.inj hv).symm
        subst eu ev
        have a0 : os.getD j 0 < n := olt _ (List.mem_of_getElem? oj)
        have b0 : os.getD ((j + 1) % n) 0 < n := olt _ (List.mem_of_getElem? oj1)
        have hll6 := ll_same sT hll5
        have al : os.getD j 0 < m.length := by rw [sq5.len]; exact a0
        obtain ⟨l, hl⟩ : ∃ l, ls[os.getD j 0]? = some l := ⟨_, List.getElem?_eq_getElem (by rw [hll5.len]; exact al)⟩
        have rl : (m.getD (os.getD j 0) []).length = n := sq5.row _ (row_mem al)
        have hcl := hll6.at_ _ l _ hl (row_at al)
        have lmem : l ∈ ls := List.mem_of_getElem? hl
        refine ⟨t, _, rfl, tup_of upd_same, rfl, _, _, rfl, _, _, rfl, rfl, ?_⟩
        have refs : (ls.map V.ref)[os.getD j 0]? = some (.ref l) := by rw [List.getElem?_map, hl]; rfl
        refine es_max2 (i := 1) (j := Tb.en m (os.getD j 0) (os.getD ((j + 1) % n) 0)) es_cV (es_ixLx (K := K) (l := l) (j := os.getD ((j + 1) % n) 0) (es_ixLL (l := F) (j := os.getD j 0) rfl hll6.f (es_vV rfl) refs) hcl (es_vV rfl) (int_at (by rw [rl]; exact b0))) _ (Same.refl _) _ fun v G7 e7 ev => ?_
        have hll7 := ll_same e7 hll6
        have hcl7 := e7 _ _ hcl
        refine ⟨.ref F, rfl, natV (os.getD j 0), rfl, F, _, ((os.getD j 0 : Nat) : Int), .ref l, rfl, rfl, lst_of hll7.f, atI_nat refs, natV (os.getD ((j + 1) % n) 0), rfl, l, _, ((os.getD ((j + 1) % n) 0 : Nat) : Int), os.getD ((j + 1) % n) 0, rfl, rfl, hcl7, (by unfold ixN; rw [List.length_map, rl, if_pos (by omega), if_pos (by omega)]; simp), ?_⟩
        subst ev
        have bd := sq5.bd _ (row_mem al) (Tb.en m (os.getD j 0) (os.getD ((j + 1) % n) 0)) (by
          show (m.getD (os.getD j 0) []).getD (os.getD ((j + 1) % n) 0) 0 ∈ _
          rw [List.getD_eq_getElem?_getD (l := m.getD (os.getD j 0) []), List.getElem?_eq_getElem (by rw [rl]; exact b0)]
          exact List.getElem_mem _)
        have mx : 1 ≤ (if Tb.en m (os.getD j 0) (os.getD ((j + 1) % n) 0) > 1 then Tb.en m (os.getD j 0) (os.getD ((j + 1) % n) 0) else 1) ∧ (if Tb.en m (os.getD j 0) (os.getD ((j + 1) % n) 0) > 1 then Tb.en m (os.getD j 0) (os.getD ((j + 1) % n) 0) else 1) ≤ 1000 := by
          split <;> omega
        generalize (if Tb.en m (os.getD j 0) (os.getD ((j + 1) % n) 0) > 1 then Tb.en m (os.getD j 0) (os.getD ((j + 1) % n) 0) else 1) = mxv at mx
        have sT7 := Same.trans sT e7
        have rs7 := r5.tr (.same r5.s1 sT7)
        have nl := nls l lmem
        refine ⟨setE m (os.getD j 0) (os.getD ((j + 1) % n) 0) mxv, _, _, rfl, rs_mutl rs7 nl.2.2 (Ne.symm nl.1), ?_, ?_, ?_, sq5.set a0 (by omega) mx.2, fun p hp => ?_⟩
        · rw [upd_ne (Ne.symm nl.2.1)]
          exact sT7 _ _ gO5
        · rw [upd_ne (Ne.symm (nlZ l lmem))]
          exact sT7 _ _ gZ5
        · rw [show ((m.getD (os.getD j 0) []).map V.int).set (os.getD ((j + 1) % n) 0) (.int mxv) = ((m.getD (os.getD j 0) []).set (os.getD ((j + 1) % n) 0) mxv).map V.int from List.map_set.symm]
          exact ll_set hll7 hl
        · rw [en_set al (by rw [rl]; exact b0)]
          split
          · omega
          · rename_i hne
            by_cases q : p = j
            · subst q
              exact absurd ⟨rfl, rfl⟩ hne
            · exact hp5 p (by omega)
      · obtain ⟨m, x6, x7, rfl, r5, gO5, gZ5, hll5, sq5, hp5⟩ := p
        have tb : Tab m := ⟨fun r hr => by rw [sq5.len]; exact sq5.row r hr, sq5.bd, by rw [sq5.len]; exact n1, by rw [sq5.len]; exact n24⟩
        have hg : Tb.Hg m := Tb.hg_round (o := fun p => os.getD p 0) (by rw [sq5.len]; omega) (fun x hx => by
          rw [sq5.len] at hx
          obtain ⟨p, hp, e⟩ := List.mem_iff_getElem.mp (pm.mem_iff.mpr (List.mem_range.mpr hx))
          refine ⟨p, by rw [sq5.len]; omega, ?_⟩
          show os.getD p 0 = x
          rw [List.getD_eq_getElem?_getD, List.getElem?_eq_getElem hp]
          exact e) fun p hp => by
          rw [sq5.len] at hp ⊢
          have l1 : ∀ q, q < n → os.getD q 0 < n := fun q hq => olt _ (by
            rw [List.getD_eq_getElem?_getD, List.getElem?_eq_getElem (show q < os.length by omega)]
            exact List.getElem_mem _)
          exact ⟨by rw [sq5.len]; exact l1 p hp, by rw [sq5.len]; exact l1 _ (Nat.mod_lt _ (by omega)), hp5 p hp⟩
        exact es_ret (D := { nx := fun _ H' => Q .non H', rt := Q }) (es_tupLL (fun x => [some (.ref S), some (.int (n : Int)), some (.int most), some (.ref L), some (.ref O), some (.ref F), x6, x7, some x]) rfl hll5 (by rw [sq5.len]; omega) (fun x H' Q q => q) (fun x => by cases x8 <;> rfl) fun x => rfl) fun v H' e ⟨q, ev, hq⟩ => ev ▸ k H' q m ((rs.tr r5).tr (.same r5.s1 e)) hq sq5.len tb hg
    · refine ⟨.ref S, rfl, S, 4, rfl, r2.s1, by decide, by decide, fun G3 c r3 c0 c1 => ⟨rfl, _, rfl, ite2 (fun hc => ?_) fun hc => ?_⟩⟩
      · have gO3 : G3 O = some (.lst (os.map natV)) := r3.keep _ _ (fun z => nSO (Option.some.inj z)) gO2
        have rs3 := r2.tr r3
        have key : ∀ Q' : VK, (∀ F ls G4, Same G3 G4 → G3 F = none → LL G4 F ls ((List.range n).map fun _ => List.replicate n 0) → (∀ l ∈ ls, G3 l = none) → Q' (.ref F) G4) → tLc (iRng1 (tCons (tVar 1) tNil)) (gName 6) tYes (tOp rRep (tLst (tCons (tC (.int 0)) tNil)) (tVar 1)) [6] [some (.ref S), some (.int (n : Int)), some (.int most), some (.ref L), some (.ref O), some (.ref F), none, none, none] G3 Q' := fun Q' hQ => by
          refine ei_range (n := n) (σ := [some (.ref S), some (.int (n : Int)), some (.int most), some (.ref L), some (.ref O), some (.ref F), none, none, none]) (es_vV (i := 1) rfl) (by omega) G3 (Same.refl _) _ fun J H2 e2 W => ?_
          have lcn : tLc (fun _ H R => R J H) (gName 6) tYes (tOp rRep (tLst (tCons (tC (.int 0)) tNil)) (tVar 1)) [6] [some (.ref S), some (.int (n : Int)), some (.int most), some (.ref L), some (.ref O), some (.ref F), none, none, none] H2 Q' := lc_new (fun _ => List.replicate n 0) (fun i => [some (.ref S), some (.int (n : Int)), some (.int most), some (.ref L), some (.ref O), some (.ref F), some (.int (i : Int)), none, none]) W (by rw [List.length_map, List.length_range]; omega) (fun i x hx H' Q q => by
            have hi : i < n := by have := (List.getElem?_eq_some_iff.mp hx).1; rwa [List.length_map, List.length_range] at this
            rw [List.getElem?_map, List.getElem?_range hi] at hx
            cases hx
            exact q) (fun i hi => rfl) (fun i x hx Gx ex R hR => ⟨by show 1 ≤ sizeLine; decide, fun p hp => ⟨.int (n : Int), rfl, p, (n : Int), [.int 0], rfl, rfl, upd_same, by omega, by omega, Nat.le_of_lt (small1000 (by show 1 * ((n : Int)).toNat ≤ 1000; omega)), fun l hl => hR l _ (Same.trans (new_same hp) (new_same hl)) (Same.free (new_same (o := .lst [V.int 0]) hp) hl) (by
              rw [upd_same, Int.toNat_natCast]
              have : ∀ k, (List.replicate k [V.int 0]).flatten = (List.replicate k (0 : Int)).map V.int := fun k => by
                induction k with
                | zero => rfl
                | succ k ih => rw [List.replicate_succ, List.replicate_succ, List.flatten_cons, ih]; rfl
              rw [this])⟩⟩) fun F ls G4 e4 nF hll fr => hQ F ls G4 (Same.trans e2 e4) (Same.free e2 nF) (by rw [List.length_map, List.length_range] at hll; exact hll) fun l hl => Same.free e2 (fr l hl)
          exact lcn
        refine key _ fun F' ls' G4 e4 nF' hll' fr' => hx' _ _ ⟨F', ls', _, _, _, _, rfl, rs3.tr (.same rs3.s1 e4), e4 _ _ gO3, hll', fun l hl => ⟨(sk_ne rs3.s1 (fr' l hl)).symm, (fun z => by have := fr' l hl; rw [z, gO3] at this; cases this), rs_free rs3 (fr' l hl)⟩, (sk_ne rs3.s1 nF').symm, (fun z => by rw [z, gO3] at nF'; cases nF'), ⟨by rw [List.length_map, List.length_range], fun r hr => ?_, fun r hr e he => ?_⟩⟩
        · obtain ⟨_, _, rfl⟩ := List.mem_map.mp hr
          exact List.length_replicate
        · obtain ⟨_, _, rfl⟩ := List.mem_map.mp hr
          rw [List.eq_of_mem_replicate he]
          exact ⟨by omega, by omega⟩
      · have kp3 : ∀ b o, (b = F ∨ b ∈ ls) → G2 b = some o → G3 b = some o := fun b o hb hbo => r3.keep b o (fun z => by
          have z := Option.some.inj z
          rcases hb with h | h
          · exact nFS (by rw [← h, z])
          · exact (nls b h).1 z.symm) hbo
        exact hx' _ _ ⟨F, ls, m, _, _, _, rfl, r2.tr r3, r3.keep _ _ (fun z => nSO (Option.some.inj z)) gO2, ll_keep kp3 hll, nls, nFS, nFO, sq⟩
theorem cl__law_hung_table (T : Txt K mg) : Cl P w K mg base 4 "_law_hung_table" (spHung K) := by
  obtain ⟨f, fd, F, hm, hb⟩ := T.f__law_hung_table
  exact cl_of (ok__law_hung_table F T) hm F.kp hb
/-! tables with a told beat -/
def lotsN (es : List Int) (j : Nat) : List Nat := (List.range j).flatMap fun i => List.replicate (es.getD i 0).toNat i
theorem lotsN_succ {es : List Int} {j : Nat} : lotsN es (j + 1) = lotsN es j ++ List.replicate (es.getD j 0).toNat j := by
  unfold lotsN
  rw [List.range_succ, List.flatMap_append]
  simp
theorem lotsN_lt {es : List Int} {j x : Nat} (h : x ∈ lotsN es j) : x < j := by
  unfold lotsN at h
  obtain ⟨i, hi, hx⟩ := List.mem_flatMap.mp h
  rw [List.eq_of_mem_replicate hx]
  exact List.mem_range.mp hi
theorem lotsN_all {es : List Int} (h : ∀ e ∈ es, 1 ≤ e ∧ e ≤ 2) {x : Nat} (hx : x < es.length) : x ∈ lotsN es es.length := by
  unfold lotsN
  refine List.mem_flatMap.mpr ⟨x, List.mem_range.mpr hx, ?_⟩
  rw [List.mem_replicate]
  have := h _ (List.getElem_mem hx)
  rw [List.getD_eq_getElem?_getD, List.getElem?_eq_getElem hx]
  exact ⟨by show (es[x]).toNat ≠ 0; omega, rfl⟩
theorem lotsN_len {es : List Int} (h : ∀ e ∈ es, 1 ≤ e ∧ e ≤ 2) : ∀ j, j ≤ es.length → ((lotsN es j).length : Int) = (es.take j).sum ∧ (lotsN es j).length ≤ 2 * j
  | 0, _ => ⟨rfl, Nat.le_refl _⟩
  | j + 1, hj => by
    obtain ⟨h1, h2⟩ := lotsN_len h j (by omega)
    have hb := h _ (List.getElem_mem (show j < es.length by omega))
    have eg : es.getD j 0 = es[j] := by rw [List.getD_eq_getElem?_getD, List.getElem?_eq_getElem (show j < es.length by omega)]; rfl
    rw [lotsN_succ, List.length_append, List.length_replicate, eg]
    refine ⟨?_, by omega⟩
    rw [List.take_succ_eq_append_getElem (show j < es.length by omega), List.sum_append, Int.natCast_add, h1]
    simp
    omega
theorem rep_nat {k j : Nat} : (List.replicate k [natV j]).flatten = (List.replicate k j).map natV := by
  induction k with
  | zero => rfl
  | succ k ih => rw [List.replicate_succ, List.replicate_succ, List.flatten_cons, ih]; rfl
theorem app_lst {te : TE} {σ : L2.St} {H : Hp} {i : Nat} {L : Addr} {D : Ends} (J : V → Hp → Prop) (hL : σ[i]? = some (some (.ref L))) (tL : ∃ xs, SqL K H L xs) (hc : ∀ Q' : VK, (∀ v G, J v G → Q' v G) → te σ H Q') (rest : ∀ v G, J v G → rAppend (.ref L) [v] G fun _ G3 => D.nx σ G3) :
    tDrop (tBM K "list" rAppend (tVar i) (tCons te tNil)) D σ H := ⟨.ref L, hL, .inl ⟨rfl, tL⟩, hc _ fun v G hv => rest v G hv⟩
theorem ints_at {ys : List V} {C : Nat → Int → Prop} (h : ∀ (i : Nat) (y : V), ys[i]? = some y → ∃ e, y = .int e ∧ C i e) : ∃ es : List Int, ys = es.map V.int ∧ ∀ i e, es[i]? = some e → C i e := by
  induction ys generalizing C with
  | nil => exact ⟨[], rfl, fun i e he => nomatch he⟩
  | cons y ys ih =>
    obtain ⟨e, rfl, he⟩ := h 0 y rfl
    obtain ⟨es, h1, h2⟩ := ih (C := fun i e => C (i + 1) e) fun i z hz => h (i + 1) z hz
    refine ⟨e :: es, by rw [h1]; rfl, fun i x hx => ?_⟩
    cases i with
    | zero => cases hx; exact he
    | succ i => exact h2 i x hx
def RowB (k N : Nat) (lots : List Nat) (i : Nat) (r : List Int) : Prop := r.length = N ∧ ∀ j e, r[j]? = some e → 0 ≤ e ∧ e ≤ 1000 ∧ (0 < e ↔ lots.getD j 0 = (lots.getD i 0 + 1) % k)
theorem lot_e {a b k : Nat} {e : Int} (e0 : 0 ≤ e) (e1 : e < 3) : 0 ≤ (if decide (natV a = V.int ((((b : Nat) : Int) + 1) % (k : Int))) = true then (1 : Int) else 0) * (1 + e) ∧ (if decide (natV a = V.int ((((b : Nat) : Int) + 1) % (k : Int))) = true then (1 : Int) else 0) * (1 + e) ≤ 1000 ∧ (0 < (if decide (natV a = V.int ((((b : Nat) : Int) + 1) % (k : Int))) = true then (1 : Int) else 0) * (1 + e) ↔ a = (b + 1) % k) := by
  have ec : ((((b + 1) % k : Nat)) : Int) = (((b : Nat) : Int) + 1) % (k : Int) := by
    rw [Int.natCast_emod]
    rfl
  by_cases q : a = (b + 1) % k
  · have : natV a = V.int ((((b : Nat) : Int) + 1) % (k : Int)) := by rw [← ec, ← q]; rfl
    rw [decide_eq_true this, if_pos rfl]
    exact ⟨by omega, by omega, fun _ => q, fun _ => by omega⟩
  · have : ¬ natV a = V.int ((((b : Nat) : Int) + 1) % (k : Int)) := fun z => by
      have z : ((a : Nat) : Int) = (((b : Nat) : Int) + 1) % (k : Int) := V.int.inj z
      rw [← ec] at z
      exact q (Int.ofNat.inj z)
    rw [decide_eq_false this, if_neg (by decide)]
    exact ⟨by omega, by omega, fun z => by omega, fun z => absurd z q⟩
def spBeating (K : PySem.W.Frag) : Sp := fun vs H Q _ => ∃ (S : Addr) (k : Nat), vs = [.ref S, .int (k : Int)] ∧ Sk H (some S) ∧ 1 ≤ k ∧ k ≤ 4 ∧ ∀ H' q m, Rs (some S) H H' → TbT K H' q m → Tab m → m.length ≤ 8 → Tb.Hg m → Tb.Bt m 0 (k : Int) → Q (.ref q) H'
theorem ok__law_beating_table {f : Addr} {fd : FuncData} (F : Fun K "_law_beating_table" "_law_beating_table" st__law_beating_table f fd) (T : Txt K mg) : FnOk P w K mg base CX0 3 f fd ["basin", "many"] (spBeating K) := by
  have c__law_scoop : Cl P w K mg base 1 "_law_scoop" spDrawn := cl__law_scoop T
  have c__law_moved_table : Cl P w K mg base 2 "_law_moved_table" (spMoved K) := cl__law_moved_table T
  refine F.ok sc__law_beating_table (fun vs H Q E h => ?_) (fun cdv A outer s H vs Q E hr h => ?_)
  · obtain ⟨S, k, rfl, _⟩ := h
    rfl
  · obtain ⟨S, k, rfl, hS, k1, k4, kk⟩ := h
    refine ⟨_, (pss_cons (ps_setLc (i := 3) (own := [("lot", 2)]) rfl sc__law_beating_table.nd rfl rfl (sw_true rfl rfl rfl (by decide +kernel)) (pi_range1 rfl T.n_range (pa_cons (pv 1) pa_nil)) (blkOk_by (N := nm__law_beating_table) (sc := defScope st__law_beating_table) (by decide +kernel)) (fun _ _ _ _ _ => (pg_name (i := 2) sc__law_beating_table.nd rfl (by first | exact Or.inl rfl | exact Or.inr rfl))) (fun _ _ _ _ _ => pts_nil) (fun _ _ _ _ _ => (pe_op op_add pe_int (pe_f c__law_scoop hr (by decide) rfl (pa_cons (pv 0) (pa_cons pe_int pa_nil)))))) (pss_cons (ps_asg (pe_tup (pa_cons (pe_lst pa_nil) (pa_cons (pe_callB (kcr_sum (K := K) rfl) (by rfl) T.n_sum bo_sum (pa_cons (pv 3) pa_nil)) pa_nil))) (kpg_tup (K := K) (n := 2) rfl (pgs_cons (pg_name (i := 4) sc__law_beating_table.nd rfl (Or.inr rfl)) (pgs_cons (pg_name (i := 5) sc__law_beating_table.nd rfl (Or.inl rfl)) pgs_nil)))) (pss_cons (ps_for PassesOwn.never rfl (kpi_enumA (K := K) rfl T.n_enumerate (pa_cons (pv 3) pa_nil)) (kpg_tup (K := K) (n := 2) rfl (pgs_cons (pg_name (i := 2) sc__law_beating_table.nd rfl (Or.inl rfl)) (pgs_cons (pg_name (i := 6) sc__law_beating_table.nd rfl (Or.inl rfl)) pgs_nil))) (pss_one (ps_expr (pe_bm PySem.F.plainAttrs_list PySem.F.slot_list_extend PySem.F.type_list_extend mt_extend (pv 4) (pa_cons (pe_op op_rep (pe_lst (pa_cons (pv 2) pa_nil)) (pv 6)) pa_nil))))) (pss_cons (ps_set (i := 7) sc__law_beating_table.nd rfl (Or.inl rfl) (pe_lst pa_nil)) (pss_cons (ps_for PassesOwn.never rfl (pi_range1 rfl T.n_range (pa_cons (pv 5) pa_nil)) (pg_name (i := 8) sc__law_beating_table.nd rfl (Or.inr rfl)) (pss_one (ps_expr (pe_bm PySem.F.plainAttrs_list PySem.F.slot_list_append PySem.F.type_list_append mt_append (pv 7) (pa_cons (pe_lc (own := [("to", 9)]) rfl sc__law_beating_table.nd (pi_range1 rfl T.n_range (pa_cons (pv 5) pa_nil)) (blkOk_by (N := nm__law_beating_table) (sc := defScope st__law_beating_table) (by decide +kernel)) (fun _ _ _ _ _ => (pg_name (i := 9) sc__law_beating_table.nd rfl (by first | exact Or.inl rfl | exact Or.inr rfl))) (fun _ _ _ _ _ => pts_nil) (fun _ _ _ _ _ => (pe_op op_mul (pe_callTy call_int1 (by rfl) T.n_int bo_int (pa_cons (pe_cmpR op_eq (pe_ix (kix_list (K := K)) (pv 4) (pv 9) (fun _ _ => rfl)) (pe_op op_mod (pe_callTy call_int1 (by rfl) T.n_int bo_int (pa_cons (pe_op op_add (pe_ix (kix_list (K := K)) (pv 4) (pv 8) (fun _ _ => rfl)) pe_int) pa_nil)) (pv 1)) (nomark _)) pa_nil)) (pe_op op_add pe_int (pe_f c__law_scoop hr (by decide) rfl (pa_cons (pv 0) (pa_cons pe_int pa_nil))))))) pa_nil))))) (pss_one (ps_ret (pe_f c__law_moved_table hr (by decide) rfl (pa_cons (pv 0) (pa_cons (pe_callTy (kcall_tuple (K := K)) (by rfl) T.n_tuple bo_tuple (pa_cons (pe_lc (own := [("row", 10)]) rfl sc__law_beating_table.nd (kpi_list (K := K) (pv 7)) (blkOk_by (N := nm__law_beating_table) (sc := defScope st__law_beating_table) (by decide +kernel)) (fun _ _ _ _ _ => (pg_name (i := 10) sc__law_beating_table.nd rfl (by first | exact Or.inl rfl | exact Or.inr rfl))) (fun _ _ _ _ _ => pts_nil) (fun _ _ _ _ _ => (pe_callTy (kcall_tuple (K := K)) (by rfl) T.n_tuple bo_tuple (pa_cons (pv 10) pa_nil)))) pa_nil)) pa_nil)))))))))), ?_⟩
    refine asg_jn (fun v G => ∃ (B : Addr) (es : List Int), v = .ref B ∧ Rs (some S) H G ∧ G B = some (.lst (es.map V.int)) ∧ es.length = k ∧ (∀ e ∈ es, 1 ≤ e ∧ e ≤ 2) ∧ H B = none) (fun Q' hQ => ?_) fun v G hv => ?_
    · refine ⟨.int (k : Int), rfl, (k : Int), rfl, by omega, by omega, ?_⟩
      rw [Int.toNat_natCast]
      exact lc_rs (S := S) (n := k) (vs := [2]) (g := gName 2) (te := tOp (rI0 fun i j => V.int (i + j)) (tC (.int 1)) (tFn spDrawn (tCons (tVar 0) (tCons (tC (.int 2)) tNil)))) (Q := Q') (P := fun _ v => ∃ e, v = .int e ∧ 1 ≤ e ∧ e ≤ 2) (σ := [some (.ref S), some (.int (k : Int)), none, none, none, none, none, none, none, none, none]) (fun j => [some (.ref S), some (.int (k : Int)), some (.int (j : Int)), none, none, none, none, none, none, none, none]) hS (by omega) (fun j hj H' Q q => q) (fun j hj => rfl) (fun j hj G1 r1 R hR => ⟨.ref S, rfl, S, 2, rfl, r1.s1, by decide, by decide, fun G2 e r2 e0 e1 => ⟨1, e, rfl, rfl, hR _ G2 r2 ⟨1 + e, rfl, by omega, by omega⟩⟩⟩) fun D ys G1 r1 gD nD yl hy => by
        obtain ⟨es, ey, he⟩ := ints_of hy
        subst ey
        rw [List.length_map] at yl
        exact hQ _ _ ⟨D, es, rfl, r1, gD, yl, he, nD⟩
    obtain ⟨B, es, rfl, rs, gB, el, he, nB⟩ := hv
    refine ⟨Nat.zero_le _, fun L hL => ⟨.ref B, rfl, B, es, rfl, lst_of (new_same hL _ _ gB), ⟨by show 2 ≤ sizeLine; decide, fun p hp => ⟨p, _, rfl, tup_of upd_same, rfl, _, _, rfl, _, _, rfl, rfl, ?_⟩⟩⟩⟩
    have sL := new_same (o := .lst []) hL
    have sp := new_same (o := .tup [V.ref L, V.int es.sum]) hp
    have e2 := Same.trans sL sp
    have gL0 : upd (upd G L (.lst [])) p (.tup [V.ref L, V.int es.sum]) L = some (.lst []) := sp _ _ upd_same
    have nLB : L ≠ B := fun z => by rw [z, gB] at hL; cases hL
    generalize upd (upd G L (.lst [])) p (.tup [V.ref L, V.int es.sum]) = G2 at e2 gL0
    have hL0 : H L = none := rs_free rs hL
    dsimp only
    refine ⟨.ref B, rfl, B, es.map V.int, rfl, .inl ⟨lst_of (e2 _ _ gB), fe_tup walk_enum (fun j τ G3 => Same G G3 ∧ ∃ x2 x6, τ = [some (.ref S), some (.int (k : Int)), x2, some (.ref B), some (.ref L), some (.int es.sum), x6, none, none, none, none] ∧ G3 L = some (.lst ((lotsN es j).map natV))) ⟨e2, _, _, rfl, gL0⟩ (fun j τ G3 _ p => lst_of (p.1 _ _ gB)) (fun j x τ G3 hx p G4 e4 kl => ?_) fun τ G3 p => ?_⟩⟩
    · obtain ⟨e3, x2, x6, rfl, gL3⟩ := p
      have hj : j < es.length := by
        have := (List.getElem?_eq_some_iff.mp hx).1
        rwa [List.length_map] at this
      rw [int_at hj] at hx
      cases hx
      have eb : 1 ≤ es.getD j 0 ∧ es.getD j 0 ≤ 2 := by
        rw [List.getD_eq_getElem?_getD, List.getElem?_eq_getElem hj]
        exact he _ (List.getElem_mem hj)
      have gL4 := e4 _ _ gL3
      have ll := (lotsN_len he j (by omega)).2
      show tDrop _ _ [some (.ref S), some (.int (k : Int)), some (natV j), some (.ref B), some (.ref L), some (.int es.sum), some (.int (es.getD j 0)), none, none, none, none] G4
      refine ⟨.ref L, rfl, .inl ⟨rfl, _, lst_of gL4⟩, natV j, rfl, by show 1 ≤ sizeLine; decide, fun c hc => ⟨.int (es.getD j 0), rfl, c, es.getD j 0, [natV j], rfl, rfl, upd_same, by omega, by omega, Nat.le_of_lt (small1000 (by show 1 * (es.getD j 0).toNat ≤ 1000; omega)), fun d hd => ?_⟩⟩
      have sc := new_same (o := .lst [natV j]) hc
      have sd := new_same (o := .lst (List.replicate (es.getD j 0).toNat [natV j]).flatten) hd
      have s5 := Same.trans sc sd
      have gL5 := s5 _ _ gL4
      refine ⟨L, d, _, _, rfl, rfl, gL5, upd_same, ?_, same_mut hL (Same.trans (Same.trans e3 e4) s5), _, _, rfl, ?_⟩
      · rw [rep_nat, List.length_map, List.length_map, List.length_replicate]
        exact Nat.le_of_lt (small1000 (by omega))
      · rw [upd_same, rep_nat, ← List.map_append, ← lotsN_succ]
    · obtain ⟨e3, x2, x6, rfl, gL3⟩ := p
      rw [List.length_map] at gL3
      obtain ⟨lsum, llen⟩ := lotsN_len he es.length (Nat.le_refl _)
      rw [List.take_length] at lsum
      have lall : ∀ x, x < es.length → x ∈ lotsN es es.length := fun x hx => lotsN_all he hx
      have llt : ∀ x ∈ lotsN es es.length, x < k := fun x hx => by rw [← el]; exact lotsN_lt hx
      have lk : ∀ x, x < k → x ∈ lotsN es es.length := fun x hx => lall x (by rw [el]; exact hx)
      clear sp sL hp
      rw [← lsum]
      replace llen : (lotsN es es.length).length ≤ 8 := by omega
      generalize lotsN es es.length = lots at gL3 lsum llen lall llt lk
      have gat : ∀ {j}, j < lots.length → lots[j]? = some (lots.getD j 0) := fun {j} hj => by rw [List.getD_eq_getElem?_getD, List.getElem?_eq_getElem hj]; rfl
      have npos : 0 < lots.length := List.length_pos_of_mem (lk 0 (by omega))
      dsimp only
      refine ⟨Nat.zero_le _, fun F hF => ?_⟩
      have rs3 : Rs (some S) H G3 := rs.tr (.same rs.s1 e3)
      have hF0 : H F = none := rs_free rs3 hF
      have nSF := sk_ne hS hF0
      have nFL : L ≠ F := fun z => by rw [z] at gL3; rw [gL3] at hF; cases hF
      have nSL := sk_ne hS hL0
      refine ⟨.int (lots.length : Int), rfl, (lots.length : Int), rfl, by omega, by omega, for_range (lo := 0) (fun i τ G5 => Rs (some S) H G5 ∧ G5 L = some (.lst (lots.map natV)) ∧ ∃ ls m x2 x6 x8, τ = [some (.ref S), some (.int (k : Int)), x2, some (.ref B), some (.ref L), some (.int (lots.length : Int)), x6, some (.ref F), x8, none, none] ∧ LL G5 F ls m ∧ (∀ l ∈ ls, l ≠ S) ∧ m.length = i ∧ ∀ i' r, m[i']? = some r → RowB k lots.length lots i' r) ⟨rs_mut rs3 hF0, by rw [upd_ne nFL]; exact gL3, [], [], _, _, none, rfl, ⟨upd_same, List.nodup_nil, List.not_mem_nil, rfl, fun i l r hl => nomatch hl⟩, fun l hl => absurd hl (List.not_mem_nil), rfl, fun i' r hr => nomatch hr⟩ (fun i τ G5 hi p => ?_) fun τ G5 p => ?_⟩
      · obtain ⟨r5, gL5, ls, m, y2, y6, y8, rfl, hll, nls, ml, hrow⟩ := p
        have hi : i < lots.length := by
          have : ((lots.length : Int)).toNat = lots.length := by omega
          omega
        rw [show (0 : Int) + ((i : Nat) : Int) = (i : Int) from Int.zero_add _]
        show tDrop _ _ [some (.ref S), some (.int (k : Int)), y2, some (.ref B), some (.ref L), some (.int (lots.length : Int)), y6, some (.ref F), some (natV i), none, none] G5
        refine app_lst (fun v G6 => ∃ D ys, v = .ref D ∧ Rs (some S) G5 G6 ∧ G6 D = some (.lst ys) ∧ G5 D = none ∧ ys.length = lots.length ∧ ∀ (j : Nat) (y : V), ys[j]? = some y → ∃ e, y = .int e ∧ 0 ≤ e ∧ e ≤ 1000 ∧ (0 < e ↔ lots.getD j 0 = (lots.getD i 0 + 1) % k)) rfl ⟨_, lst_of hll.f⟩ (fun Q' hQ => ?_) fun v G6 hv => ?_
        · refine ⟨.int (lots.length : Int), rfl, (lots.length : Int), rfl, by omega, by omega, ?_⟩
          rw [Int.toNat_natCast]
          exact lc_rs (S := S) (n := lots.length) (vs := [9]) (g := gName 9) (te := tOp (rI CMul fun i j => V.int (i * j)) (tCB (fun xs H Q => (∃ i, xs = [V.int i] ∧ Q (V.int i) H) ∨ ∃ k : Bool, xs = [V.bl k] ∧ Q (V.int (if k = true then 1 else 0)) H) (tCons (tOp rEq (tOp (rIxL K) (tVar 4) (tVar 9)) (tOp (rI (fun x j => 0 < j) fun i j => V.int (i % j)) (tCB (fun xs H Q => (∃ i, xs = [V.int i] ∧ Q (V.int i) H) ∨ ∃ k : Bool, xs = [V.bl k] ∧ Q (V.int (if k = true then 1 else 0)) H) (tCons (tOp (rI0 fun i j => V.int (i + j)) (tOp (rIxL K) (tVar 4) (tVar 8)) (tC (.int 1))) tNil)) (tVar 1))) tNil)) (tOp (rI0 fun i j => V.int (i + j)) (tC (.int 1)) (tFn spDrawn (tCons (tVar 0) (tCons (tC (.int 3)) tNil))))) (Q := Q') (P := fun j v => ∃ e, v = .int e ∧ 0 ≤ e ∧ e ≤ 1000 ∧ (0 < e ↔ lots.getD j 0 = (lots.getD i 0 + 1) % k)) (σ := [some (.ref S), some (.int (k : Int)), y2, some (.ref B), some (.ref L), some (.int (lots.length : Int)), y6, some (.ref F), some (natV i), none, none]) (fun j => [some (.ref S), some (.int (k : Int)), y2, some (.ref B), some (.ref L), some (.int (lots.length : Int)), y6, some (.ref F), some (natV i), some (.int (j : Int)), none]) r5.s1 (by omega) (fun j hj H' Q q => q) (fun j hj => rfl) (fun j hj G1 r1 R hR => by
            have gL1 : G1 L = some (.lst (lots.map natV)) := r1.keep _ _ (fun z => nSL (Option.some.inj z)) gL5
            have at1 : ∀ {x}, x < lots.length → (lots.map natV)[x]? = some (natV (lots.getD x 0)) := fun hx => by rw [List.getElem?_map, gat hx]; rfl
            refine ⟨.ref L, rfl, natV j, rfl, L, _, (j : Int), natV (lots.getD j 0), rfl, rfl, lst_of gL1, atI_nat (at1 hj), .ref L, rfl, natV i, rfl, L, _, (i : Int), natV (lots.getD i 0), rfl, rfl, lst_of gL1, atI_nat (at1 hi), _, _, rfl, rfl, .inl ⟨_, rfl, .int (k : Int), rfl, _, _, rfl, rfl, by omega, rfl, .inr ⟨_, rfl, .ref S, rfl, S, 3, rfl, r1.s1, by decide, by decide, fun G2 e r2 e0 e1 => ⟨1, e, rfl, rfl, _, _, rfl, rfl, ?_, hR _ G2 r2 ⟨_, rfl, ?_⟩⟩⟩⟩⟩
            · left
              split <;> omega
            · exact lot_e e0 e1) fun D ys G1 r1 gD nD yl hy => hQ _ _ ⟨D, ys, rfl, r1, gD, nD, yl, hy⟩
        · obtain ⟨D, ys, rfl, r6, gD, nD, yl, hy⟩ := hv
          obtain ⟨zs, ez, hz⟩ := ints_at hy
          subst ez
          rw [List.length_map] at yl
          have kpF : ∀ b o, (b = F ∨ b ∈ ls) → G5 b = some o → G6 b = some o := fun b o hb hbo => r6.keep b o (fun z => by
            have z := Option.some.inj z
            rcases hb with h | h
            · exact nSF (by rw [← h, z])
            · exact nls b h z.symm) hbo
          have hf6 := kpF _ _ (.inl rfl) hll.f
          refine ⟨F, ls.map V.ref, .ref D, rfl, rfl, hf6, small1000 (by rw [List.length_map, hll.len, ml]; omega), rs_mut (r5.tr r6) hF0, ?_, ls ++ [D], m ++ [zs], _, _, _, rfl, ll_snoc hll kpF nD gD, fun l hl => ?_, by rw [List.length_append, ml]; rfl, fun i' r hr => ?_⟩
          · rw [upd_ne nFL]
            exact r6.keep _ _ (fun z => nSL (Option.some.inj z)) gL5
          · rcases List.mem_append.mp hl with h | h
            · exact nls l h
            · rw [List.mem_singleton.mp h]
              exact (sk_ne r5.s1 nD).symm
          · by_cases q : i' < m.length
            · rw [List.getElem?_append_left q] at hr
              exact hrow i' r hr
            · rw [List.getElem?_append_right (by omega)] at hr
              cases z : i' - m.length with
              | succ n => rw [z] at hr; cases hr
              | zero =>
                rw [z] at hr
                cases hr
                have : i' = i := by omega
                subst this
                exact ⟨yl, hz⟩
      · obtain ⟨r5, gL5, ls, m, y2, y6, y8, rfl, hll, nls, ml, hrow⟩ := p
        have hn : ((lots.length : Int)).toNat = lots.length := by omega
        rw [hn] at ml
        have mrow : ∀ i, i < lots.length → RowB k lots.length lots i (m.getD i []) := fun i hi => hrow i _ (row_at (by omega))
        have tb : Tab m := ⟨fun r hr => by
            obtain ⟨i, hi, rfl⟩ := List.mem_iff_getElem.mp hr
            rw [ml]
            exact (hrow i _ (List.getElem?_eq_getElem hi)).1, fun r hr x hx => by
            obtain ⟨i, hi, rfl⟩ := List.mem_iff_getElem.mp hr
            obtain ⟨j, hj, rfl⟩ := List.mem_iff_getElem.mp hx
            have := (hrow i _ (List.getElem?_eq_getElem hi)).2 j _ (List.getElem?_eq_getElem hj)
            exact ⟨this.1, this.2.1⟩, by omega, by omega⟩
        have bt : Tb.Btg m k (fun i => lots.getD i 0) := ⟨by omega, fun i hi => llt _ (List.mem_of_getElem? (gat (by omega))), fun x hx => by
            obtain ⟨i, hi, e⟩ := List.mem_iff_getElem.mp (lk x hx)
            refine ⟨i, by omega, ?_⟩
            show lots.getD i 0 = x
            rw [List.getD_eq_getElem?_getD, List.getElem?_eq_getElem hi]
            exact e, fun i j hi hj => by
            have hr := mrow i (by omega)
            have hc : (m.getD i [])[j]? = some (Tb.en m i j) := by
              show _ = some ((m.getD i []).getD j 0)
              rw [List.getD_eq_getElem?_getD (l := m.getD i []), List.getElem?_eq_getElem (show j < (m.getD i []).length by rw [hr.1]; omega)]
              rfl
            have := (hr.2 j _ hc).2.2
            exact ⟨fun z => this.mp z.2.2, fun z => ⟨hi, hj, this.mpr z⟩⟩⟩
        dsimp only
        refine ⟨.ref S, rfl, es_tupLL (fun x => [some (.ref S), some (.int (k : Int)), y2, some (.ref B), some (.ref L), some (.int (lots.length : Int)), y6, some (.ref F), y8, none, some x]) rfl hll (by omega) (fun x H' Q q => q) (fun x => rfl) (fun x => rfl) G5 (Same.refl _) _ fun v G6 e6 ⟨q, ev, hq⟩ => ?_⟩
        subst ev
        have r6 : Rs (some S) H G6 := r5.tr (.same r5.s1 e6)
        exact ⟨S, q, m, rfl, r6.s1, hq, tb, fun H' q' m' o r7 hq' tb' mv => kk H' q' m' (r6.tr r7) hq' tb' (by rw [mv.len]; omega) (mv.hg bt.hg) (mv.bt bt.hg (by omega) (bt.bt (by omega)))⟩
theorem cl__law_beating_table (T : Txt K mg) : Cl P w K mg base 3 "_law_beating_table" (spBeating K) := by
  obtain ⟨f, fd, F, hm, hb⟩ := T.f__law_beating_table
  exact cl_of (ok__law_beating_table F T) hm F.kp hb
/-! tables beside one another -/
theorem rep_int {k : Nat} : (List.replicate k [V.int 0]).flatten = (List.replicate k (0 : Int)).map V.int := by
  induction k with
  | zero => rfl
  | succ k ih => rw [List.replicate_succ, List.replicate_succ, List.flatten_cons, ih]; rfl
theorem ll_cat {G1 G2 G3 : Hp} {F1 F2 F : Addr} {ls1 ls2 : List Addr} {r1 r2 : Tb.M} (h1 : LL G1 F1 ls1 r1) (e2 : Same G1 G2) (h2 : LL G2 F2 ls2 r2) (f2 : ∀ l ∈ ls2, G1 l = none) (e3 : Same G2 G3) (nF : G2 F = none) (hF : G3 F = some (.lst ((ls1 ++ ls2).map V.ref))) : LL G3 F (ls1 ++ ls2) (r1 ++ r2) := by
  have ex1 : ∀ l ∈ ls1, ∃ o, G1 l = some o := fun l hl => by
    obtain ⟨i, hi, ei⟩ := List.mem_iff_getElem.mp hl
    exact ⟨_, h1.at_ i l _ (by rw [List.getElem?_eq_getElem hi, ei]) (List.getElem?_eq_getElem (show i < r1.length by rw [← h1.len]; exact hi))⟩
  have ex2 : ∀ l ∈ ls2, ∃ o, G2 l = some o := fun l hl => by
    obtain ⟨i, hi, ei⟩ := List.mem_iff_getElem.mp hl
    exact ⟨_, h2.at_ i l _ (by rw [List.getElem?_eq_getElem hi, ei]) (List.getElem?_eq_getElem (show i < r2.length by rw [← h2.len]; exact hi))⟩
  refine ⟨hF, ?_, fun z => ?_, by rw [List.length_append, List.length_append, h1.len, h2.len], fun i l r hl hr => ?_⟩
  · rw [List.nodup_append]
    exact ⟨h1.nd, h2.nd, fun a ha b hb q => by
      obtain ⟨o, e⟩ := ex1 a ha
      rw [q, f2 b hb] at e
      cases e⟩
  · rcases List.mem_append.mp z with z | z
    · obtain ⟨o, e⟩ := ex1 F z
      rw [e2 _ _ e] at nF
      cases nF
    · obtain ⟨o, e⟩ := ex2 F z
      rw [e] at nF
      cases nF
  · by_cases q : i < ls1.length
    · rw [List.getElem?_append_left q] at hl
      rw [List.getElem?_append_left (by rw [← h1.len]; exact q)] at hr
      exact e3 _ _ (e2 _ _ (h1.at_ i l r hl hr))
    · rw [List.getElem?_append_right (by omega)] at hl
      rw [List.getElem?_append_right (by rw [← h1.len]; omega), ← h1.len] at hr
      exact e3 _ _ (h2.at_ _ l r hl hr)
theorem cat_jn {ta tb : TE} {σ : L2.St} {H : Hp} {Q : VK} (J1 : V → Hp → Prop) (J2 : V → V → Hp → Prop) (hc1 : ∀ Q' : VK, (∀ v G, J1 v G → Q' v G) → ta σ H Q') (hc2 : ∀ v G, J1 v G → ∀ Q' : VK, (∀ u G2, J2 v u G2 → Q' u G2) → tb σ G Q') (rest : ∀ v u G2, J2 v u G2 → rCat v u G2 Q) : tOp rCat ta tb σ H Q :=
  hc1 _ fun v G hv => hc2 v G hv _ fun u G2 hu => rest v u G2 hu
theorem put_seq {te to ti : TE} {x : TS} {D : Ends} {σ : L2.St} {H : Hp} {v : V} {l : Addr} {ys : List V} {j : Nat} (hv : EvS te σ H (IsV v)) (ho : EvS to σ H (IsV (.ref l))) (hi : EvS ti σ H (IsV (.int (j : Int)))) (hl : H l = some (.lst ys)) (hj : j < ys.length) (rest : ∀ G, Same H G → x D σ (upd G l (.lst (ys.set j v)))) : tSeq (tAsg te (gSub to ti rSetL)) x D σ H :=
  hv H (Same.refl _) _ fun v' G1 e1 ev => ho G1 e1 _ fun o G2 e2 eo => hi G2 (Same.trans e1 e2) _ fun i G3 e3 ei => by
    subst ev eo ei
    have e4 := Same.trans (Same.trans e1 e2) e3
    exact ⟨l, ys, (j : Int), j, rfl, rfl, e4 _ _ hl, by unfold ixN; rw [if_pos (by omega), if_pos (by omega)]; simp, rest G3 e4⟩
def besT (m1 m2 : Tb.M) : Tb.M := ((List.range m1.length).map fun i => m1.getD i [] ++ List.replicate m2.length 0) ++ ((List.range m2.length).map fun i => List.replicate m1.length 0 ++ m2.getD i [])
theorem bes_len {m1 m2 : Tb.M} : (besT m1 m2).length = m1.length + m2.length := by
  unfold besT
  rw [List.length_append, List.length_map, List.length_map, List.length_range, List.length_range]
theorem bes_sqr {m1 m2 : Tb.M} (t1 : Tab m1) (t2 : Tab m2) : Sqr (besT m1 m2) (m1.length + m2.length) := by
  refine ⟨bes_len, fun r hr => ?_, fun r hr e he => ?_⟩
  · unfold besT at hr
    rcases List.mem_append.mp hr with h | h
    · obtain ⟨i, hi, rfl⟩ := List.mem_map.mp h
      rw [List.length_append, List.length_replicate, t1.row (List.mem_range.mp hi)]
    · obtain ⟨i, hi, rfl⟩ := List.mem_map.mp h
      rw [List.length_append, List.length_replicate, t2.row (List.mem_range.mp hi)]
  · unfold besT at hr
    rcases List.mem_append.mp hr with h | h
    · obtain ⟨i, hi, rfl⟩ := List.mem_map.mp h
      rcases List.mem_append.mp he with h | h
      · exact t1.nn _ (row_mem (List.mem_range.mp hi)) e h
      · rw [List.eq_of_mem_replicate h]; exact ⟨by omega, by omega⟩
    · obtain ⟨i, hi, rfl⟩ := List.mem_map.mp h
      rcases List.mem_append.mp he with h | h
      · rw [List.eq_of_mem_replicate h]; exact ⟨by omega, by omega⟩
      · exact t2.nn _ (row_mem (List.mem_range.mp hi)) e h
theorem bes_low {m1 m2 : Tb.M} {i j : Nat} (hi : m1.length ≤ i) (hj : j < m1.length) : Tb.en (besT m1 m2) i j ≤ 0 := by
  unfold Tb.en besT
  by_cases q : i < m1.length + m2.length
  · have e : (((List.range m1.length).map fun i => m1.getD i [] ++ List.replicate m2.length 0) ++ ((List.range m2.length).map fun i => List.replicate m1.length 0 ++ m2.getD i [])).getD i [] = List.replicate m1.length 0 ++ m2.getD (i - m1.length) [] := by
      rw [List.getD_eq_getElem?_getD, List.getElem?_append_right (by rw [List.length_map, List.length_range]; exact hi), List.length_map, List.length_range, List.getElem?_map, List.getElem?_range (by omega)]
      rfl
    rw [e, List.getD_eq_getElem?_getD, List.getElem?_append_left (by rw [List.length_replicate]; exact hj), List.getElem?_replicate, if_pos hj]
    exact Int.le_refl 0
  · have e : (((List.range m1.length).map fun i => m1.getD i [] ++ List.replicate m2.length 0) ++ ((List.range m2.length).map fun i => List.replicate m1.length 0 ++ m2.getD i [])).getD i [] = [] := by
      rw [List.getD_eq_getElem?_getD, List.getElem?_eq_none (by rw [List.length_append, List.length_map, List.length_map, List.length_range, List.length_range]; omega)]
      rfl
    rw [e]
    exact Int.le_refl 0
def spBeside (K : PySem.W.Frag) : Sp := fun vs H Q _ => ∃ (a b : Addr) (m1 m2 : Tb.M) (link : Int), vs = [.ref a, .ref b, .int link] ∧ TbT K H a m1 ∧ Tab m1 ∧ TbT K H b m2 ∧ Tab m2 ∧ m1.length + m2.length ≤ 24 ∧ 0 ≤ link ∧ link ≤ 1000 ∧ ∀ H' q m, Same H H' → TbT K H' q m → Tab m → ¬ Tb.Hg m → Q (.ref q) H'
theorem ok__law_beside {f : Addr} {fd : FuncData} (F : Fun K "_law_beside" "_law_beside" st__law_beside f fd) (T : Txt K mg) : FnOk P w K mg base CX0 1 f fd ["one", "other", "link"] (spBeside K) := by
  refine F.ok sc__law_beside (fun vs H Q E h => ?_) (fun cdv A outer s H vs Q E hr h => ?_)
  · obtain ⟨a, b, m1, m2, link, rfl, _⟩ := h
    rfl
  · obtain ⟨a, b, m1, m2, link, rfl, hA, t1, hB, t2, hz, l0, l1, k⟩ := h
    have n1 := t1.n1
    have n2 := t2.n1
    refine ⟨_, (pss_cons (ps_asg (pe_tup (pa_cons (pe_callB (kcall_len (K := K)) (by rfl) T.n_len bo_len (pa_cons (pv 0) pa_nil)) (pa_cons (pe_callB (kcall_len (K := K)) (by rfl) T.n_len bo_len (pa_cons (pv 1) pa_nil)) pa_nil))) (kpg_tup (K := K) (n := 2) rfl (pgs_cons (pg_name (i := 3) sc__law_beside.nd rfl (Or.inr rfl)) (pgs_cons (pg_name (i := 4) sc__law_beside.nd rfl (Or.inr rfl)) pgs_nil)))) (pss_cons (ps_set (i := 5) sc__law_beside.nd rfl (Or.inl rfl) (pe_op op_cat (pe_lc (own := [("row", 6)]) rfl sc__law_beside.nd (kpi_tup (K := K) (pv 0)) (blkOk_by (N := nm__law_beside) (sc := defScope st__law_beside) (by decide +kernel)) (fun _ _ _ _ _ => (pg_name (i := 6) sc__law_beside.nd rfl (by first | exact Or.inl rfl | exact Or.inr rfl))) (fun _ _ _ _ _ => pts_nil) (fun _ _ _ _ _ => (pe_op op_cat (pe_callTy (kcall_list (K := K)) (by rfl) T.n_list bo_list (pa_cons (pv 6) pa_nil)) (pe_op op_rep (pe_lst (pa_cons pe_int pa_nil)) (pv 4))))) (pe_lc (own := [("row", 6)]) rfl sc__law_beside.nd (kpi_tup (K := K) (pv 1)) (blkOk_by (N := nm__law_beside) (sc := defScope st__law_beside) (by decide +kernel)) (fun _ _ _ _ _ => (pg_name (i := 6) sc__law_beside.nd rfl (by first | exact Or.inl rfl | exact Or.inr rfl))) (fun _ _ _ _ _ => pts_nil) (fun _ _ _ _ _ => (pe_op op_cat (pe_op op_rep (pe_lst (pa_cons pe_int pa_nil)) (pv 3)) (pe_callTy (kcall_list (K := K)) (by rfl) T.n_list bo_list (pa_cons (pv 6) pa_nil))))))) (pss_cons (ps_asg (pe_callB (call_max2 rfl) (by rfl) T.n_max bo_max (pa_cons (pv 2) (pa_cons (pe_ix (kix_list (K := K)) (pe_ix (kix_list (K := K)) (pv 5) pe_int (fun _ _ => rfl)) (pe_op op_sub (pe_op op_add (pv 3) (pv 4)) pe_int) (fun _ _ => rfl)) pa_nil))) (pg_sub (pe_ix (kix_list (K := K)) (pv 5) pe_int (fun _ _ => rfl)) (pe_op op_sub (pe_op op_add (pv 3) (pv 4)) pe_int) set_list)) (pss_one (ps_ret (pe_callTy (kcall_tuple (K := K)) (by rfl) T.n_tuple bo_tuple (pa_cons (pe_lc (own := [("row", 6)]) rfl sc__law_beside.nd (kpi_list (K := K) (pv 5)) (blkOk_by (N := nm__law_beside) (sc := defScope st__law_beside) (by decide +kernel)) (fun _ _ _ _ _ => (pg_name (i := 6) sc__law_beside.nd rfl (by first | exact Or.inl rfl | exact Or.inr rfl))) (fun _ _ _ _ _ => pts_nil) (fun _ _ _ _ _ => (pe_callTy (kcall_tuple (K := K)) (by rfl) T.n_tuple bo_tuple (pa_cons (pv 6) pa_nil)))) pa_nil))))))), ?_⟩
    refine pair_seq (v := .int (m1.length : Int)) (u := .int (m2.length : Int)) (es_lenTb rfl hA) (es_lenTb rfl hB) fun H1 e1 => ?_
    have hA1 := tb_same e1 hA
    have hB1 := tb_same e1 hB
    refine asg_jn (fun v G => ∃ F ls, v = .ref F ∧ Same H1 G ∧ LL G F ls (besT m1 m2) ∧ ∀ l ∈ ls, H1 l = none) (fun Q' hQ => ?_) fun v G hv => ?_
    · obtain ⟨ps, p1, p2, p3⟩ := id hA1
      have key1 : ∀ Q' : VK, (∀ F ls G, Same H1 G → H1 F = none → LL G F ls ((List.range ps.length).map fun i => m1.getD i [] ++ List.replicate m2.length 0) → (∀ l ∈ ls, H1 l = none) → Q' (.ref F) G) → tLc (fun _ H R => R (Itt K a) H) (gName 6) tYes (tOp rCat (tCB (rListOf K) (tCons (tVar 6) tNil)) (tOp rRep (tLst (tCons (tC (.int 0)) tNil)) (tVar 4))) [6] [some (.ref a), some (.ref b), some (.int link), some (.int (m1.length : Int)), some (.int (m2.length : Int)), none, none] H1 Q' := fun Q' hQ => lc_new (xs := ps) (fun i => m1.getD i [] ++ List.replicate m2.length 0) (fun i => [some (.ref a), some (.ref b), some (.int link), some (.int (m1.length : Int)), some (.int (m2.length : Int)), none, ps[i]?]) (walk_tupS p1) (by omega) (fun i x hx H' Q q => by rw [hx] at q; exact q) (fun i hi => rfl) (fun i x hx Gx ex R hR => by
        have hi : i < m1.length := by rw [← p2]; exact (List.getElem?_eq_some_iff.mp hx).1
        obtain ⟨c, rfl, hc⟩ := p3 i x _ hx (row_at hi)
        have rl := t1.row hi
        refine ⟨.ref c, by show some ps[i]? = _; rw [hx], c, _, rfl, .inr (same_tup ex hc), fun l hl => ⟨by show 1 ≤ sizeLine; decide, fun p hp => ⟨.int (m2.length : Int), rfl, p, (m2.length : Int), [.int 0], rfl, rfl, upd_same, by omega, by omega, Nat.le_of_lt (small1000 (by show 1 * ((m2.length : Int)).toNat ≤ 1000; omega)), fun r hr => ?_⟩⟩⟩
        have s1 := new_same (o := .lst ((m1.getD i []).map V.int)) hl
        have s2 := new_same (o := .lst [V.int 0]) hp
        have s3 := new_same (o := .lst (List.replicate ((m2.length : Int)).toNat [V.int 0]).flatten) hr
        have nlr : l ≠ r := fun z => by rw [← z, s2 _ _ upd_same] at hr; cases hr
        refine ⟨l, r, _, _, rfl, rfl, s3 _ _ (s2 _ _ upd_same), upd_same, ?_, fun z hz => hR z _ (Same.trans (Same.trans s1 (Same.trans s2 s3)) (new_same hz)) (Same.free s1 (Same.free s2 (Same.free s3 hz))) ?_⟩
        · rw [Int.toNat_natCast, rep_int, List.length_map, List.length_map, List.length_replicate]
          exact Nat.le_of_lt (small1000 (by omega))
        · rw [upd_same, Int.toNat_natCast, rep_int, List.map_append]) hQ
      refine cat_jn (fun v G1 => ∃ F1 ls1, v = .ref F1 ∧ Same H1 G1 ∧ LL G1 F1 ls1 ((List.range ps.length).map fun i => m1.getD i [] ++ List.replicate m2.length 0) ∧ ∀ l ∈ ls1, H1 l = none) (fun v u G2 => ∃ F1 ls1 G1 F2 ls2, v = .ref F1 ∧ u = .ref F2 ∧ Same H1 G1 ∧ LL G1 F1 ls1 ((List.range m1.length).map fun i => m1.getD i [] ++ List.replicate m2.length 0) ∧ (∀ l ∈ ls1, H1 l = none) ∧ Same G1 G2 ∧ LL G2 F2 ls2 ((List.range m2.length).map fun i => List.replicate m1.length 0 ++ m2.getD i []) ∧ ∀ l ∈ ls2, G1 l = none) (fun Q1 hQ1 => ⟨.ref a, rfl, a, rfl, ⟨ps, p1⟩, key1 Q1 fun F1 ls1 G1 e2 nF1 hl1 fr1 => hQ1 _ _ ⟨F1, ls1, rfl, e2, hl1, fr1⟩⟩) (fun v G1 hv Q2 hQ2 => ?_) fun v u G2 hu => ?_
      · obtain ⟨F1, ls1, rfl, e2, hl1, fr1⟩ := hv
        obtain ⟨ps2, q1, q2, q3⟩ := tb_same e2 hB1
        have key2 : ∀ Q' : VK, (∀ F ls G, Same G1 G → G1 F = none → LL G F ls ((List.range ps2.length).map fun i => List.replicate m1.length 0 ++ m2.getD i []) → (∀ l ∈ ls, G1 l = none) → Q' (.ref F) G) → tLc (fun _ H R => R (Itt K b) H) (gName 6) tYes (tOp rCat (tOp rRep (tLst (tCons (tC (.int 0)) tNil)) (tVar 3)) (tCB (rListOf K) (tCons (tVar 6) tNil))) [6] [some (.ref a), some (.ref b), some (.int link), some (.int (m1.length : Int)), some (.int (m2.length : Int)), none, none] G1 Q' := fun Q' hQ => lc_new (xs := ps2) (fun i => List.replicate m1.length 0 ++ m2.getD i []) (fun i => [some (.ref a), some (.ref b), some (.int link), some (.int (m1.length : Int)), some (.int (m2.length : Int)), none, ps2[i]?]) (walk_tupS q1) (by omega) (fun i x hx H' Q q => by rw [hx] at q; exact q) (fun i hi => rfl) (fun i x hx Gx ex R hR => by
          have hi : i < m2.length := by rw [← q2]; exact (List.getElem?_eq_some_iff.mp hx).1
          obtain ⟨c, rfl, hc⟩ := q3 i x _ hx (row_at hi)
          have rl := t2.row hi
          refine ⟨by show 1 ≤ sizeLine; decide, fun p hp => ⟨.int (m1.length : Int), rfl, p, (m1.length : Int), [.int 0], rfl, rfl, upd_same, by omega, by omega, Nat.le_of_lt (small1000 (by show 1 * ((m1.length : Int)).toNat ≤ 1000; omega)), fun r hr => ?_⟩⟩
          have s2 := new_same (o := .lst [V.int 0]) hp
          have s3 := new_same (o := .lst (List.replicate ((m1.length : Int)).toNat [V.int 0]).flatten) hr
          refine ⟨.ref c, by show some ps2[i]? = _; rw [hx], c, _, rfl, .inr (same_tup (Same.trans ex (Same.trans s2 s3)) hc), fun l hl => ?_⟩
          have s1 := new_same (o := .lst ((m2.getD i []).map V.int)) hl
          refine ⟨r, l, _, _, rfl, rfl, s1 _ _ upd_same, upd_same, ?_, fun z hz => hR z _ (Same.trans (Same.trans s2 (Same.trans s3 s1)) (new_same hz)) (Same.free s2 (Same.free s3 (Same.free s1 hz))) ?_⟩
          · rw [Int.toNat_natCast, rep_int, List.length_map, List.length_map, List.length_replicate]
            exact Nat.le_of_lt (small1000 (by omega))
          · rw [upd_same, Int.toNat_natCast, rep_int, List.map_append]) hQ
        refine ⟨.ref b, rfl, b, rfl, ⟨ps2, q1⟩, key2 Q2 fun F2 ls2 G2 e3 nF2 hl2 fr2 => hQ2 _ _ ⟨F1, ls1, G1, F2, ls2, rfl, rfl, e2, by rw [← p2]; exact hl1, fr1, e3, by rw [← q2]; exact hl2, fr2⟩⟩
      · obtain ⟨F1, ls1, G1, F2, ls2, rfl, rfl, e2, hl1, fr1, e3, hl2, fr2⟩ := hu
        refine ⟨F1, F2, _, _, rfl, rfl, e3 _ _ hl1.f, hl2.f, ?_, fun F hF => ?_⟩
        · rw [List.length_map, List.length_map, hl1.len, hl2.len, List.length_map, List.length_map, List.length_range, List.length_range]
          exact Nat.le_of_lt (small1000 (by omega))
        · have s4 := new_same (o := .lst (ls1.map V.ref ++ ls2.map V.ref)) hF
          refine hQ _ _ ⟨F, ls1 ++ ls2, rfl, Same.trans e2 (Same.trans e3 s4), ?_, fun l hl => ?_⟩
          · exact ll_cat hl1 e3 hl2 fr2 s4 hF (by rw [upd_same, List.map_append])
          · rcases List.mem_append.mp hl with h | h
            · exact fr1 l h
            · exact Same.free e2 (fr2 l h)
    · obtain ⟨F, ls, rfl, e2, hll, fr⟩ := hv
      have sq := bes_sqr t1 t2
      have bl : (besT m1 m2).length = m1.length + m2.length := bes_len
      have r0 : ((besT m1 m2).getD 0 []).length = m1.length + m2.length := sq.row _ (row_mem (by omega))
      obtain ⟨l, hl⟩ : ∃ l, ls[0]? = some l := ⟨_, List.getElem?_eq_getElem (by rw [hll.len]; omega)⟩
      have refs : (ls.map V.ref)[0]? = some (.ref l) := by rw [List.getElem?_map, hl]; rfl
      have hcl := hll.at_ 0 l _ hl (row_at (by omega))
      have ix : ∀ {G : Hp}, EvS (tOp (rI0 fun i j => V.int (i - j)) (tOp (rI0 fun i j => V.int (i + j)) (tVar 3) (tVar 4)) (tC (.int 1))) [some (.ref a), some (.ref b), some (.int link), some (.int (m1.length : Int)), some (.int (m2.length : Int)), some (.ref F), none] G (IsV (.int ((m1.length + m2.length - 1 : Nat) : Int))) := fun {G} => es_as (es_i0 (es_i0 (es_vV rfl) (es_vV rfl)) es_cV) (by
        show V.int _ = V.int _
        congr 1
        omega)
      have bd := sq.bd _ (row_mem (show 0 < (besT m1 m2).length by omega)) (Tb.en (besT m1 m2) 0 (m1.length + m2.length - 1)) (by
        show ((besT m1 m2).getD 0 []).getD (m1.length + m2.length - 1) 0 ∈ _
        rw [List.getD_eq_getElem?_getD (l := (besT m1 m2).getD 0 []), List.getElem?_eq_getElem (by rw [r0]; omega)]
        exact List.getElem_mem _)
      have mx : 0 ≤ (if Tb.en (besT m1 m2) 0 (m1.length + m2.length - 1) > link then Tb.en (besT m1 m2) 0 (m1.length + m2.length - 1) else link) ∧ (if Tb.en (besT m1 m2) 0 (m1.length + m2.length - 1) > link then Tb.en (besT m1 m2) 0 (m1.length + m2.length - 1) else link) ≤ 1000 := by
        split <;> omega
      refine put_seq (j := m1.length + m2.length - 1) (es_max2 (i := link) (j := Tb.en (besT m1 m2) 0 (m1.length + m2.length - 1)) (es_vV rfl) (es_ixLx (K := K) (l := l) (j := m1.length + m2.length - 1) (es_ixLL (l := F) (j := 0) rfl hll.f es_cV refs) hcl ix (int_at (by rw [r0]; omega)))) (es_ixLL (K := K) (l := F) (j := 0) rfl hll.f es_cV refs) ix hcl (by rw [List.length_map, r0]; omega) fun G8 e8 => ?_
      generalize (if Tb.en (besT m1 m2) 0 (m1.length + m2.length - 1) > link then Tb.en (besT m1 m2) 0 (m1.length + m2.length - 1) else link) = mxv at mx
      have hll8 := ll_same e8 hll
      have hset : LL (upd G8 l (.lst (((((besT m1 m2).getD 0 []).map V.int).set (m1.length + m2.length - 1) (.int mxv))))) F ls (setE (besT m1 m2) 0 (m1.length + m2.length - 1) mxv) := by
        rw [show (((besT m1 m2).getD 0 []).map V.int).set (m1.length + m2.length - 1) (.int mxv) = (((besT m1 m2).getD 0 []).set (m1.length + m2.length - 1) mxv).map V.int from List.map_set.symm]
        exact ll_set hll8 hl
      have sq2 := sq.set (i := 0) (j := m1.length + m2.length - 1) (by omega) mx.1 mx.2
      have s9 : Same H1 (upd G8 l (.lst (((((besT m1 m2).getD 0 []).map V.int).set (m1.length + m2.length - 1) (.int mxv))))) := same_mut (fr l (List.mem_of_getElem? hl)) (Same.trans e2 e8)
      refine es_ret (D := { nx := fun _ H' => Q .non H', rt := Q }) (es_tupLL (fun x => [some (.ref a), some (.ref b), some (.int link), some (.int (m1.length : Int)), some (.int (m2.length : Int)), some (.ref F), some x]) rfl hset (by rw [sq2.len]; omega) (fun x H' Q q => q) (fun x => rfl) fun x => rfl) fun v H' e ⟨q, ev, hq⟩ => ev ▸ k H' q _ (Same.trans e1 (Same.trans s9 e)) hq ⟨fun r hr => by rw [sq2.len]; exact sq2.row r hr, sq2.bd, by rw [sq2.len]; omega, by rw [sq2.len]; omega⟩ (Tb.not_hg (s := m1.length) (by omega) (by rw [sq2.len]; omega) fun i j hi hj => ?_)
      rw [en_set (by omega) (by rw [r0]; omega), if_neg (fun z => by omega)]
      exact bes_low hi hj
theorem cl__law_beside (T : Txt K mg) : Cl P w K mg base 1 "_law_beside" (spBeside K) := by
  obtain ⟨f, fd, F, hm, hb⟩ := T.f__law_beside
  exact cl_of (ok__law_beside F T) hm F.kp hb
/-! the beat of a table, or none -/
/-- a refused call: the exception keeps ('apart',) -/
def Apart (K : PySem.W.Frag) (H H' : Hp) (d : Addr) : Prop := Same H H' ∧ ∃ q, H' d = some (.xd [("reason", .ref q)]) ∧ SqT K H' q [.str "apart"]
def spChkTog (K : PySem.W.Frag) (mg : Str → Option Value) : Sp := fun vs H Q E => ∃ (a : Addr) (m : Tb.M), vs = [.ref a] ∧ TbT K H a m ∧ Tab m ∧ (Tb.Hg m → ∀ H', Same H H' → Q .non H') ∧ (¬ Tb.Hg m → ∀ H' d, Apart K H H' d → E (.ref (cA mg "Refused")) (some d) H')
theorem okx_check_together {f : Addr} {fd : FuncData} (F : Fun K "check_together" "check_together" st_check_together f fd) (T : Txt K mg) : FnOk P w K mg base (L2.CX P w) 3 f fd ["table"] (spChkTog K mg) := by
  have c_does_hang : Cl P w K mg base 2 "does_hang" (spHang K) := cl_does_hang T
  obtain ⟨nid, iid, tl, fI, x_Refused⟩ := T.x_Refused
  refine okX F sc_check_together (fun vs H Q E h => ?_) (fun cdv A outer s H vs Q E hr h => ?_)
  · obtain ⟨a, m, rfl, _⟩ := h
    rfl
  · obtain ⟨a, m, rfl, hT, t, k1, k2⟩ := h
    refine ⟨_, (pss_one (ps_if (pt_not (pt_val (pe_f c_does_hang hr (by decide) rfl (pa_cons (pv 0) pa_nil)))) (pss_one (ps_raise1 rfl x_Refused PySem.One.fld_reason hr (takes_of rfl rfl rfl rfl) (pa_cons (pe_tup (pa_cons pe_str pa_nil)) pa_nil) rfl)) pss_nil)), ?_⟩
    refine ⟨.ref a, rfl, a, m, rfl, hT, t, fun H1 b e1 hb => ⟨b, rfl, ?_⟩⟩
    cases b with
    | true => exact k1 (hb.mp rfl) H1 e1
    | false =>
      have nh : ¬ Tb.Hg m := fun z => by have := hb.mpr z; cases this
      refine iteT ⟨by show 1 ≤ sizeLine; decide, fun q hq => ⟨.ref q, rfl, fun d hd => k2 nh _ d ⟨Same.trans e1 (Same.trans (new_same hq) (new_same hd)), q, upd_same, ?_⟩⟩⟩
      exact same_tup (new_same hd) (tup_of upd_same)
theorem clx_check_together (T : Txt K mg) : Clx P w K mg base 3 "check_together" (spChkTog K mg) := by
  obtain ⟨f, fd, F, hm, hb⟩ := T.f_check_together
  exact clx_of (okx_check_together F T) hm F.kp hb
theorem gcd_dvd {h x y : Int} : h ∣ ((Int.gcd x y : Nat) : Int) ↔ h ∣ x ∧ h ∣ y := by
  constructor
  · intro z
    exact ⟨Int.dvd_trans z (Int.gcd_dvd_left ..), Int.dvd_trans z (Int.gcd_dvd_right ..)⟩
  · rintro ⟨z1, z2⟩
    exact Int.dvd_coe_gcd z1 z2
def spBeat (K : PySem.W.Frag) (mg : Str → Option Value) : Sp := fun vs H Q E => ∃ (a : Addr) (m : Tb.M), vs = [.ref a] ∧ TbT K H a m ∧ Tab m ∧ (Tb.Hg m → ∀ H' g, Same H H' → Tb.Bt m 0 g → Q (.int g) H') ∧ (¬ Tb.Hg m → ∀ H' d, Apart K H H' d → E (.ref (cA mg "Refused")) (some d) H')
/-- found so far: of the edges from the places below i, and from i to those below j -/
def Edg (m : Tb.M) (dd : Nat → Int) (i j : Nat) (g : Int) : Prop := 0 ≤ g ∧ ∀ h : Int, h ∣ g ↔ ∀ p q, (p < i ∨ (p = i ∧ q < j)) → Tb.E m p q → h ∣ dd p + 1 - dd q
theorem edg_next {m : Tb.M} {dd : Nat → Int} {i : Nat} {g : Int} (e : Edg m dd i m.length g) : Edg m dd (i + 1) 0 g := ⟨e.1, fun h => (e.2 h).trans ⟨fun H p q hp he => H p q (by have := he.2.1; omega) he, fun H p q hp he => H p q (by omega) he⟩⟩
theorem edg_no {m : Tb.M} {dd : Nat → Int} {i j : Nat} {g : Int} (e : Edg m dd i j g) (n : ¬ Tb.E m i j) : Edg m dd i (j + 1) g := ⟨e.1, fun h => (e.2 h).trans ⟨fun H p q hp he => by
  by_cases z : p = i ∧ q = j
  · rw [z.1, z.2] at he; exact absurd he n
  · exact H p q (by omega) he, fun H p q hp he => H p q (by omega) he⟩⟩
theorem edg_yes {m : Tb.M} {dd : Nat → Int} {i j : Nat} {g : Int} (e : Edg m dd i j g) (y : Tb.E m i j) : Edg m dd i (j + 1) ((Int.gcd g (dd i + 1 - dd j) : Nat) : Int) := ⟨by omega, fun h => gcd_dvd.trans ⟨fun ⟨a, b⟩ p q hp he => by
  by_cases z : p = i ∧ q = j
  · rw [z.1, z.2]; exact b
  · exact (e.2 h).mp a p q (by omega) he, fun H => ⟨(e.2 h).mpr fun p q hp he => H p q (by omega) he, H i j (by omega) y⟩⟩⟩
theorem okx_beat {f : Addr} {fd : FuncData} (F : Fun K "beat" "beat" st_beat f fd) (T : Txt K mg) : FnOk P w K mg base (L2.CX P w) 6 f fd ["table"] (spBeat K mg) := by
  have c_check_count_table : Cl P w K mg base 5 "check_count_table" (spChkTab K) := cl_check_count_table T
  have cx_check_together : Clx P w K mg base 3 "check_together" (spChkTog K mg) := clx_check_together T
  have c_steps_from : Cl P w K mg base 1 "steps_from" (spSteps K) := cl_steps_from T
  refine okX F sc_beat (fun vs H Q E h => ?_) (fun cdv A outer s H vs Q E hr h => ?_)
  · obtain ⟨a, m, rfl, _⟩ := h
    rfl
  · obtain ⟨a, m, rfl, hT, t, k1, k2⟩ := h
    have n1 := t.n1
    have n24 := t.n24
    refine ⟨_, (pss_cons (ps_expr (pe_f c_check_count_table hr (by decide) rfl (pa_cons (pv 0) pa_nil))) (pss_cons (ps_expr (pe_fx (E := E) cx_check_together hr (by decide) rfl (takes_of rfl rfl rfl rfl) (fun _ _ _ _ h => h) (pa_cons (pv 0) pa_nil))) (pss_cons (ps_set (i := 1) sc_beat.nd rfl (Or.inl rfl) (pe_f c_steps_from hr (by decide) rfl (pa_cons (pv 0) pa_nil))) (pss_cons (ps_set (i := 2) sc_beat.nd rfl (Or.inl rfl) pe_int) (pss_cons (ps_for (passes_of rfl) rfl (kpi_enumA (K := K) rfl T.n_enumerate (pa_cons (pv 0) pa_nil)) (kpg_tup (K := K) (n := 2) rfl (pgs_cons (pg_name (i := 3) sc_beat.nd rfl (Or.inl rfl)) (pgs_cons (pg_name (i := 4) sc_beat.nd rfl (Or.inl rfl)) pgs_nil))) (pss_one (ps_for (passes_of rfl) rfl (kpi_enumA (K := K) rfl T.n_enumerate (pa_cons (pv 4) pa_nil)) (kpg_tup (K := K) (n := 2) rfl (pgs_cons (pg_name (i := 5) sc_beat.nd rfl (Or.inl rfl)) (pgs_cons (pg_name (i := 6) sc_beat.nd rfl (Or.inl rfl)) pgs_nil))) (pss_one (ps_if (pt_cmpR op_gt (pv 6) pe_int (nomark _)) (pss_one (ps_set (i := 2) sc_beat.nd rfl (Or.inl rfl) (pe_callBfun cr_gcd rfl T.i_gcd (pa_cons (pv 2) (pa_cons (pe_op op_sub (pe_op op_add (pe_dget (hu_of hr) (pv 1) (pv 3) (fun _ _ => rfl)) pe_int) (pe_dget (hu_of hr) (pv 1) (pv 5) (fun _ _ => rfl))) pa_nil))))) pss_nil))))) (pss_one (ps_ret (pv 2)))))))), ?_⟩
    refine drop_seq (P := IsV .non) (es_fn (evc (es_vV rfl) ev0) fun H1 e Q q => ⟨a, m, rfl, tb_same e hT, t, fun H' e' => q _ _ e' rfl⟩) fun H1 e1 => ?_
    have hT1 := tb_same e1 hT
    refine ⟨.ref a, rfl, a, m, rfl, hT1, t, fun hg H2 e2 => ?_, fun nh H2 d ap => k2 nh H2 d ⟨Same.trans e1 ap.1, ap.2⟩⟩
    have e12 := Same.trans e1 e2
    have hT2 := tb_same e12 hT
    refine ⟨.ref a, rfl, a, m, rfl, hT2, t, hg, fun H3 d ks dd e3 nd hd st hall => ?_⟩
    have hT3 := tb_same e3 hT2
    have hget : ∀ {G : Hp} {σ : L2.St} {i : Nat} {x : Nat}, G d = some (.dK (kvS ks dd)) → σ[1]? = some (some (.ref d)) → σ[i]? = some (some (natV x)) → x < m.length → EvS (tDGet (tVar 1) (tVar i)) σ G (IsV (.int (dd x))) := fun {G σ i x} hG h1 hi hx => es_dgI (k := (x : Int)) hG (es_vV h1) (es_vV hi) (find_ks (hall x hx))
    obtain ⟨ps, t1, t2, t3⟩ := id hT3
    refine asg_seq (P := IsV (.int 0)) es_cV fun v H4 e4 ev => ?_
    subst ev
    refine for_enumT (K := K) (a := a) (xs := ps) (es_vV rfl) (same_tup e4 t1) (fun i τ G => Same H3 G ∧ ∃ g x3 x4 x5 x6, τ = [some (.ref a), some (.ref d), some (.int g), x3, x4, x5, x6] ∧ Edg m dd i 0 g) (fun G e => ⟨Same.trans e4 e, 0, _, _, _, _, rfl, Int.le_refl 0, fun h => ⟨fun _ p q hp he => absurd hp (by omega), fun _ => Int.dvd_zero h⟩⟩) (fun i τ G _ p => same_tup p.1 t1) (fun i x τ G hx p G' e5 => ?_) fun τ G p => ?_
    · obtain ⟨e6, g, x3, x4, x5, x6, rfl, hE⟩ := p
      have hi : i < m.length := by rw [← t2]; exact (List.getElem?_eq_some_iff.mp hx).1
      obtain ⟨b, rfl, hb⟩ := t3 i x _ hx (row_at hi)
      have s6 := Same.trans e6 e5
      have hb6 := same_tup s6 hb
      have rl := t.row hi
      refine for_enumT (K := K) (a := b) (xs := (m.getD i []).map V.int) (es_vV rfl) hb6 (fun j τ G => Same H3 G ∧ ∃ g x5 x6, τ = [some (.ref a), some (.ref d), some (.int g), some (natV i), some (.ref b), x5, x6] ∧ Edg m dd i j g) (fun G e => ⟨Same.trans s6 e, g, _, _, rfl, hE⟩) (fun j τ G _ p => same_tup p.1 hb) (fun j x τ G hx p G2 e7 => ?_) fun τ G p => ?_
      · obtain ⟨e8, g, y5, y6, rfl, hE⟩ := p
        have hj : j < m.length := by
          have := (List.getElem?_eq_some_iff.mp hx).1
          rw [List.length_map] at this
          omega
        rw [int_at (by rw [rl]; exact hj)] at hx
        cases hx
        have s8 := Same.trans e8 e7
        refine ifs_1 (b := decide (0 < Tb.en m i j)) (eb_test (es_i0 (es_vV rfl) es_cV)) (fun hc G3 e9 => ?_) fun hc G3 e9 => ?_
        · have hc := of_decide_eq_true hc
          have hd3 := (Same.trans s8 e9) _ _ hd
          refine ⟨.int g, rfl, es_i0 (f := fun i j => V.int (i - j)) (es_i0 (f := fun i j => V.int (i + j)) (hget (i := 3) hd3 rfl rfl hi) es_cV) (hget (i := 5) hd3 rfl rfl hj) G3 (Same.refl _) _ fun v G4 e10 ev => ⟨g, dd i + 1 - dd j, by rw [show v = _ from ev], ?_⟩⟩
          exact ⟨Same.trans (Same.trans s8 e9) e10, _, _, _, rfl, edg_yes hE ⟨hi, hj, hc⟩⟩
        · exact ⟨Same.trans s8 e9, g, _, _, rfl, edg_no hE fun z => (of_decide_eq_false hc) z.2.2⟩
      · obtain ⟨e8, g, y5, y6, rfl, hE⟩ := p
        rw [List.length_map, rl] at hE
        exact ⟨e8, g, _, _, _, _, rfl, edg_next hE⟩
    · obtain ⟨e6, g, x3, x4, x5, x6, rfl, hE⟩ := p
      rw [t2] at hE
      refine ⟨.int g, rfl, k1 hg _ g (Same.trans e12 (Same.trans e3 e6)) (Tb.bt_steps hg (by omega) st.d0 (fun i hi => st.p i (hall i hi)) hE.1 fun h => (hE.2 h).trans ⟨fun H i j e => H i j (.inl e.1) e, fun H p q hp e => H p q e⟩)⟩
theorem clx_beat (T : Txt K mg) : Clx P w K mg base 6 "beat" (spBeat K mg) := by
  obtain ⟨f, fd, F, hm, hb⟩ := T.f_beat
  exact clx_of (okx_beat F T) hm F.kp hb
/-! what a lambda's call tells of a table -/
open LamX in
theorem sub_self {B nid iid : String} {tl : List Value} {x fl : Str} {C fI : Addr} (Tx : PySem.One.Txt K mg B nid iid tl x fl C fI) : PySem.W.subIn K (.ref C) (.ref C) = some true := by
  obtain ⟨nm, q, N, bs, sn, sub, ab, col, dd, k0, k1, k2, k3, k5, h⟩ := Tx.cls
  have e : PySem.W.mroIn K C (.ref C) = some true := by
    unfold PySem.W.mroIn PySem.W.clsIn
    rw [h]
    show (if ((Value.ref C :: tl).isEmpty = true) then none else some ((Value.ref C :: tl).contains (.ref C))) = some true
    rw [if_neg (fun z => by cases z), List.contains_cons, beq_self_eq_true, Bool.true_or]
  exact e
theorem tells__law_told' (T : Txt K mg) : Tells K mg "_law_told" "call" nm__law_told st__law_told := ⟨T.f__law_told, sc__law_told, rfl, .inl rfl⟩
theorem gives__law_told {X : Cx} (T : Txt K mg) (hK : X.K = K) (hm : X.mg = mg) {g : Addr} {cdv : Value} {q : Str} : LamX.GivesTo X nm__law_told "_law_told" (defScope st__law_told) g cdv (defBody st__law_told) "call" q (TTold2 (cA mg "Refused") "reason" "refused") := by
  obtain ⟨nid, iid, tl, fI, Tx⟩ := T.x_Refused
  refine told_gives2 rfl (by rw [hm]; exact Tx.gC) rfl rfl (by decide) rfl (fun _ _ _ => rfl) rfl rfl (by rw [hK]; exact PySem.W.exm_ref Tx.exC Tx.hdC Tx.tyC (sub_self Tx)) (by rw [hK]; exact ⟨Tx.ga, Tx.gg, Tx.exC, Tx.hdC⟩) (by rw [hK]; exact Tx.noN) (fun _ _ _ => rfl)
/-! what the law checks of one table -/
theorem sqT_ext {H H' : Hp} {a : Addr} {xs : List V} (e : LamX.ExtN H H') (h : SqT K H a xs) : SqT K H' a xs := by
  rcases h with (h | ⟨o, h⟩) | h
  · exact .inl (.inl (e _ _ h (fun _ z => by cases z)))
  · exact .inl (.inr ⟨o, e _ _ h (fun _ z => by cases z)⟩)
  · exact .inr h
theorem tb_ext {H H1 : Hp} {a : Addr} {m : Tb.M} (e : LamX.ExtN H H1) (h : TbT K H a m) : TbT K H1 a m := by
  obtain ⟨ps, h1, h2, h3⟩ := h
  exact ⟨ps, sqT_ext e h1, h2, fun i p r hp hr => let ⟨b, eb, hb⟩ := h3 i p r hp hr; ⟨b, eb, sqT_ext e hb⟩⟩
def tabD (m : Tb.M) : PyData := .tuple (m.map tupD)
theorem eqv_tabD (a b : Tb.M) : PyData.eqv (tabD a) (tabD b) = decide (a = b) := eqv_rows a b
theorem shaped_tabD (a : Tb.M) : SeqAt.shaped (tabD a) = true := by
  unfold SeqAt.shaped tabD
  rw [show PyData.canLay0 (.tuple (a.map tupD)) = PyData.canLayAll0 (a.map tupD) from rfl, canLay_rows, Bool.true_and, decide_eq_true_iff]
  show PyData.depthAll (a.map tupD) + 1 ≤ 64
  have := depth_rows a
  omega
theorem dp_rws {H : Hp} : ∀ {ps : List V} {rows : Tb.M}, RwA K H ps rows → DpAll K H ps (rows.map tupD)
  | [], [], _ => .nil
  | [], _ :: _, h => by cases h.1
  | _ :: _, [], h => by cases h.1
  | p :: ps, r :: rows, h => by
    obtain ⟨b, eb, hb⟩ := h.2 0 p r rfl rfl
    rw [eb]
    exact .cons (dp_tup hb) (dp_rws ⟨Nat.succ.inj h.1, fun i q s hq hs => h.2 (i + 1) q s hq hs⟩)
theorem dp_tab {H : Hp} {a : Addr} {m : Tb.M} (h : TbT K H a m) : Dp K H (.ref a) (tabD m) := by
  obtain ⟨ps, h1, h2, h3⟩ := h
  exact .tup h1 (dp_rws ⟨h2, h3⟩)
theorem dp_new {H : Hp} {l : Addr} {ps : List V} {m : Tb.M} (hl : H l = none) (h : RwA K H ps m) : Dp K (upd H l (.tup ps)) (.ref l) (tabD m) := by
  have h2 := rwa_same (new_same (o := .tup ps) hl) h
  exact .tup (tup_of upd_same) (dp_rws h2)
def apartD : PyData := .tuple [.str "refused", .tuple [.str "apart"]]
theorem dp_apart {H : Hp} {p q : Addr} (h1 : SqT K H p [.str "refused", .ref q]) (h2 : SqT K H q [.str "apart"]) : Dp K H (.ref p) apartD := .tup h1 (.cons (.str _) (.cons (.tup h2 (.cons (.str _) .nil)) .nil))
abbrev lamQ (x : Str) : Str := (PyProof.Rows.envOfC x (defScope st__law_is_told) 0 0 .none).qual ++ "<lambda>"
def spTold (K : PySem.W.Frag) (TL : List (Addr × Str)) : Sp := fun vs H Q _ => ∃ (a : Addr) (m : Tb.M), vs = [.ref a] ∧ TbT K H a m ∧ Tab m ∧ LamX.Tabs TL H ∧ ∀ H', LamX.ExtN H H' → LamX.Tabs TL H' → Q (.bl true) H'
theorem ok__law_is_told {TL : List (Addr × Str)} {f c Pt : Addr} {fd : FuncData} (F : Fun K "_law_is_told" "_law_is_told" st__law_is_told f fd) (T : Txt K mg) (LT : LamT base mg TL fd (lamQ "_law_is_told") c Pt) : FnOk P w K mg base CX0 9 f fd ["table"] (spTold K TL) := by
  have c__law_hangs : Cl P w K mg base 2 "_law_hangs" (spHang K) := cl__law_hangs T
  have c_hangs_together : Cl P w K mg base 6 "hangs_together" (spHang K) := cl_hangs_together T
  have c_pieces_of : Cl P w K mg base 6 "pieces_of" (spPieces K) := cl_pieces_of T
  have c__law_parts : Cl P w K mg base 2 "_law_parts" (spPartsL K) := cl__law_parts T
  have c__law_own_beat : Cl P w K mg base 2 "_law_own_beat" (spOwn K) := cl__law_own_beat T
  have cx_beat : Clx P w K mg base 6 "beat" (spBeat K mg) := clx_beat T
  have tells__law_told := tells__law_told' T
  refine okL F LT.code sc__law_is_told (fun vs H Q E h => ?_) (fun A outer s H vs Q E hr h => ?_)
  · obtain ⟨a, m, rfl, _⟩ := h
    rfl
  · obtain ⟨a, m, rfl, hT, t, hTl, k⟩ := h
    refine ⟨_, (pss_cons (ps_set (i := 1) sc__law_is_told.nd rfl (Or.inl rfl) (pe_f c__law_hangs hr (by decide) rfl (pa_cons (pv 0) pa_nil))) (pss_cons (ps_if (PW.pt (pw_or (pt_cmpR op_ne (pe_f c_hangs_together hr (by decide) rfl (pa_cons (pv 0) pa_nil)) (pv 1) (nomark _)) (pw_or1 (pt_cmpR (kop_neD (K := K) hr.units) (pe_f c_pieces_of hr (by decide) rfl (pa_cons (pv 0) pa_nil)) (pe_callTy (kcall_tuple (K := K)) (by rfl) T.n_tuple bo_tuple (pa_cons (pe_f c__law_parts hr (by decide) rfl (pa_cons (pv 0) pa_nil)) pa_nil)) (nomark _))))) (pss_one (ps_ret pe_bl)) pss_nil) (pss_cons (ps_set (i := 2) sc__law_is_told.nd rfl (Or.inl rfl) (pe_ifExp (kpt_truth (K := K) (pv 1) (by intro _; rfl)) (pe_f c__law_own_beat hr (by decide) rfl (pa_cons (pv 0) pa_nil)) (pe_tup (pa_cons pe_str (pa_cons (pe_tup (pa_cons pe_str pa_nil)) pa_nil))))) (pss_one (ps_ret (pe_cmpR (kop_eqD (K := K) hr.units) (pe_tells tells__law_told rfl (fun _ _ => gives__law_told T rfl rfl) LT rfl hr (LamX.lamS_by rfl) rfl (fun _ _ _ _ _ => rfl) (fun A2 outer2 s2 H2 E2 f2 c2 hr2 => (pe_fx (E := E2) cx_beat hr2 (by decide) rfl (takes_of rfl rfl rfl rfl) (fun _ _ _ _ h => h) (pa_cons (pv 0) pa_nil)))) (pv 2) (nomark _))))))), ?_⟩
    refine asg_seq (P := fun v _ => ∃ b, v = .bl b ∧ (b = true ↔ Tb.Hg m)) (es_fn (evc (es_vV rfl) ev0) fun H1 e Q q => ⟨a, m, rfl, tb_same e hT, t, fun H' b e' hb => q _ _ e' ⟨b, rfl, hb⟩⟩) fun v H1 e1 hv => ?_
    obtain ⟨b, rfl, hb⟩ := hv
    have hT1 := tb_same e1 hT
    show tSeq _ _ _ [some (.ref a), some (.bl b), none] H1
    refine ifno_seq (eb_or (eb_b fun H2 e2 Q q => ⟨.ref a, rfl, a, m, rfl, tb_same e2 hT1, t, fun H3 b' e3 hb' => ⟨.bl b, rfl, rfl, ?_⟩⟩) (eb_b (es_neD (d := tabD (partsM m m.length)) (e := tabD (partsM m m.length)) (es_fn (evc (es_vV rfl) ev0) fun H2 e2 Q q => ⟨a, m, rfl, tb_same e2 hT1, t, fun H3 q3 e3 h3 => q _ _ e3 (dp_tab h3)⟩)
      (fun H2 e2 Q q => ⟨.ref a, rfl, a, m, rfl, tb_same e2 hT1, t, fun H3 F ps e3 nF gF hR => ⟨F, ps, rfl, .inl ⟨lst_of gF, fun l hl => q _ _ (Same.trans e3 (new_same hl)) (dp_new hl hR)⟩⟩⟩) (shaped_tabD _) (shaped_tabD _) (by rw [eqv_tabD, decide_eq_true rfl])))) fun H2 e2 => ?_
    · have eb : b' = b := by rw [Bool.eq_iff_iff, hb, hb']
      refine q _ _ e3 ?_
      rw [eb, decide_eq_true rfl]
      rfl
    have hT2 := tb_same e2 hT1
    refine asg_seq (P := fun v H' => (Tb.Hg m → ∃ g, v = .int g ∧ Tb.Bt m 0 g) ∧ (¬ Tb.Hg m → ∃ p q, v = .ref p ∧ SqT K H' p [.str "refused", .ref q] ∧ SqT K H' q [.str "apart"])) (es_if (b := b) (fun H3 e3 Q q => ?_) (fun y => ?_) (fun y => ?_)) fun v H3 e3 hv => ?_
    · exact ⟨.bl b, rfl, b, rfl, q _ (Same.refl _)⟩
    · have hg : Tb.Hg m := hb.mp y
      exact es_fn (evc (es_vV rfl) ev0) fun H4 e4 Q q => ⟨a, m, rfl, tb_same e4 hT2, t, hg, fun H5 g e5 bt => q _ _ e5 ⟨fun _ => ⟨g, rfl, bt⟩, fun n => absurd hg n⟩⟩
    · have nh : ¬ Tb.Hg m := fun z => by rw [hb.mpr z] at y; cases y
      refine fun H4 e4 Q q => ⟨by show 1 ≤ sizeLine; decide, fun r hr' => ⟨by show 2 ≤ sizeLine; decide, fun p hp => q _ _ (Same.trans (new_same hr') (new_same hp)) ⟨fun hg => absurd hg nh, fun _ => ⟨p, r, rfl, tup_of upd_same, same_tup (new_same hp) (tup_of upd_same)⟩⟩⟩⟩
    have hT3 := tb_same e3 hT2
    have e13 := Same.trans e1 (Same.trans e2 e3)
    show tRet _ _ [some (.ref a), some (.bl b), some v] H3
    refine ⟨hTl.ext e13, fun H4 x4 t4 => ?_⟩
    refine ⟨.ref a, rfl, a, m, rfl, tb_ext x4 hT3, t, fun hg H5 g e5 bt => ?_, fun nh H5 d ap => ?_⟩
    · obtain ⟨g', rfl, bt'⟩ := hv.1 hg
      refine ⟨.int g', rfl, .int g, .int g', .int g, .int g', rfl, rfl, ?_⟩
      rw [Tb.Bt.uniq bt bt']
      have hk := k H5 ((LamX.ExtN.of e13).trans (x4.trans (LamX.ExtN.of e5))) (t4.ext e5)
      rw [show PyData.eqv (.int g') (.int g') = true from decide_eq_true rfl]
      exact hk
    · obtain ⟨p, q, rfl, hp, hq⟩ := hv.2 nh
      obtain ⟨e5, r, hd, hr5⟩ := ap
      refine ⟨rfl, d, _, .ref r, rfl, hd, rfl, fun p' hp' => ?_⟩
      have e6 := new_same (o := .tup [.str "refused", .ref r]) hp'
      have x6 : LamX.ExtN H3 (upd H5 p' (.tup [.str "refused", .ref r])) := x4.trans (LamX.ExtN.of (Same.trans e5 e6))
      refine ⟨.ref p, rfl, apartD, apartD, dp_apart (tup_of upd_same) (same_tup e6 hr5), dp_apart (sqT_ext x6 hp) (sqT_ext x6 hq), by decide +kernel, by decide +kernel, ?_⟩
      have hk := k _ ((LamX.ExtN.of e13).trans x6) (t4.ext (Same.trans e5 e6))
      rw [show PyData.eqv apartD apartD = true from by decide]
      exact hk
/-! what the law checks of one basin -/
def lamFact (P : Program) (w : World) (K : PySem.W.Frag) (mg : Str → Option Value) (base : Heap) (TL : List (Addr × Str)) : Prop := ∃ (f c Pt : Addr) (fd : FuncData), Fun K "_law_is_told" "_law_is_told" st__law_is_told f fd ∧ mg "_law_is_told" = some (.ref f) ∧ Binds K fd ["table"] [] ∧ LamT base mg TL fd (lamQ "_law_is_told") c Pt
theorem cl__law_is_told {TL : List (Addr × Str)} (T : Txt K mg) (LF : lamFact P w K mg base TL) : Cl P w K mg base 9 "_law_is_told" (spTold K TL) := by
  obtain ⟨f, c, Pt, fd, F, hm, hb, LT⟩ := LF
  exact cl_of (ok__law_is_told F T LT) hm F.kp hb
/-- the basin drawn from, tables of code objects grown -/
structure RE (TL : List (Addr × Str)) (S : Addr) (H H' : Hp) : Prop where
  s1 : Sk H' (some S)
  tl : LamX.Tabs TL H'
  keep : ∀ b o, b ≠ S → (∀ ps, o ≠ .tbl ps) → H b = some o → H' b = some o
theorem tabs_rs {TL : List (Addr × Str)} {S : Addr} {H H' : Hp} (r : Rs (some S) H H') (t : LamX.Tabs TL H) : LamX.Tabs TL H' := fun p hp => by
  obtain ⟨x, y, z, eS⟩ := r.s0
  obtain ⟨ps, h1, h2, h3⟩ := t p hp
  refine ⟨ps, r.keep _ _ (fun q => ?_) h1, h2, fun pos cv hc => ?_⟩
  · rw [← Option.some.inj q, eS] at h1
    cases h1
  · obtain ⟨c, e1, e2⟩ := h3 pos cv hc
    refine ⟨c, e1, r.keep _ _ (fun q => ?_) e2⟩
    rw [← Option.some.inj q, eS] at e2
    unfold LamX.CodeO at e2
    cases e2
section
variable {TL : List (Addr × Str)} {S : Addr} {H G G' : Hp}
theorem RE.rs (e : RE TL S H G) (r : Rs (some S) G G') : RE TL S H G' := ⟨r.s1, tabs_rs r e.tl, fun b o n nt h => r.keep b o (fun q => n (Option.some.inj q).symm) (e.keep b o n nt h)⟩
theorem RE.ext (e : RE TL S H G) (x : LamX.ExtN G G') (t : LamX.Tabs TL G') : RE TL S H G' := by
  obtain ⟨a, b, c, h⟩ := e.s1
  exact ⟨⟨a, b, c, x _ _ h (fun _ z => by cases z)⟩, t, fun b o n nt h => x b o (e.keep b o n nt h) nt⟩
theorem RE.same (e : RE TL S H G) (s : Same G G') : RE TL S H G' := e.rs (.same e.s1 s)
theorem sqT_re {K : PySem.W.Frag} {a : Addr} {xs : List V} (hS : Sk H (some S)) (e : RE TL S H G) (h : SqT K H a xs) : SqT K G a xs := by
  obtain ⟨x, y, z, eS⟩ := hS
  rcases h with (h | ⟨o, h⟩) | h
  · exact .inl (.inl (e.keep _ _ (fun q => by rw [q, eS] at h; cases h) (fun _ z => by cases z) h))
  · exact .inl (.inr ⟨o, e.keep _ _ (fun q => by rw [q, eS] at h; cases h) (fun _ z => by cases z) h⟩)
  · exact .inr h
theorem tb_re {K : PySem.W.Frag} {a : Addr} {m : Tb.M} (hS : Sk H (some S)) (e : RE TL S H G) (h : TbT K H a m) : TbT K G a m := by
  obtain ⟨ps, h1, h2, h3⟩ := h
  exact ⟨ps, sqT_re hS e h1, h2, fun i p r hp hr => let ⟨b, eb, hb⟩ := h3 i p r hp hr; ⟨b, eb, sqT_re hS e hb⟩⟩
end
theorem ite0 {c : Bool} {p q : Prop} (hc : c = false) (h : q) : if c = true then p else q := by subst hc; exact h
theorem ite1 {c : Bool} {p q : Prop} (hc : c = true) (h : p) : if c = true then p else q := by subst hc; exact h
def spRight (K : PySem.W.Frag) (TL : List (Addr × Str)) : Sp := fun vs H Q _ => ∃ (S : Addr), vs = [.ref S] ∧ Sk H (some S) ∧ LamX.Tabs TL H ∧ ∀ H', RE TL S H H' → Q (.bl true) H'
theorem ok__law_right {TL : List (Addr × Str)} {f : Addr} {fd : FuncData} (F : Fun K "_law_right" "_law_right" st__law_right f fd) (T : Txt K mg) (LF : lamFact P w K mg base TL) : FnOk P w K mg base CX0 10 f fd ["basin"] (spRight K TL) := by
  have c__law_scoop : Cl P w K mg base 1 "_law_scoop" spDrawn := cl__law_scoop T
  have c__law_drawn_table : Cl P w K mg base 3 "_law_drawn_table" (spTabD K) := cl__law_drawn_table T
  have c__law_hung_table : Cl P w K mg base 4 "_law_hung_table" (spHung K) := cl__law_hung_table T
  have c__law_moved_table : Cl P w K mg base 2 "_law_moved_table" (spMoved K) := cl__law_moved_table T
  have c__law_beating_table : Cl P w K mg base 3 "_law_beating_table" (spBeating K) := cl__law_beating_table T
  have c__law_beside : Cl P w K mg base 1 "_law_beside" (spBeside K) := cl__law_beside T
  have c_hangs_together : Cl P w K mg base 6 "hangs_together" (spHang K) := cl_hangs_together T
  have c__law_is_told : Cl P w K mg base 9 "_law_is_told" (spTold K TL) := cl__law_is_told T LF
  have cx_beat : Clx P w K mg base 6 "beat" (spBeat K mg) := clx_beat T
  refine F.ok sc__law_right (fun vs H Q E h => ?_) (fun cdv A outer s H vs Q E hr h => ?_)
  · obtain ⟨S, rfl, _⟩ := h
    rfl
  · obtain ⟨S, rfl, hS, hTl, k⟩ := h
    refine ⟨_, (pss_cons (ps_set (i := 1) sc__law_right.nd rfl (Or.inl rfl) (pe_op op_add pe_int (pe_f c__law_scoop hr (by decide) rfl (pa_cons (pv 0) (pa_cons pe_int pa_nil))))) (pss_cons (ps_par (i := 2) (j := 3) rfl sc__law_right.nd rfl rfl (by decide) rfl rfl (pa_cons (pe_f c__law_drawn_table hr (by decide) rfl (pa_cons (pv 0) (pa_cons (pv 1) (pa_cons pe_int pa_nil)))) (pa_cons (pe_f c__law_hung_table hr (by decide) rfl (pa_cons (pv 0) (pa_cons (pv 1) (pa_cons pe_int pa_nil)))) pa_nil)) (by with_unfolding_all rfl)) (pss_cons (ps_if (PW.pt (pw_or (pt_not (pt_val (pe_f c__law_is_told hr (by decide) rfl (pa_cons (pv 2) pa_nil)))) (pw_or (pt_not (pt_val (pe_f c__law_is_told hr (by decide) rfl (pa_cons (pv 3) pa_nil)))) (pw_or1 (pt_not (pt_val (pe_f c_hangs_together hr (by decide) rfl (pa_cons (pv 3) pa_nil)))))))) (pss_one (ps_ret pe_bl)) pss_nil) (pss_cons (ps_if (pt_cmpR op_ne (pe_fx0 cx_beat hr (by decide) rfl (pa_cons (pe_f c__law_moved_table hr (by decide) rfl (pa_cons (pv 0) (pa_cons (pv 3) pa_nil))) pa_nil)) (pe_fx0 cx_beat hr (by decide) rfl (pa_cons (pv 3) pa_nil)) (nomark _)) (pss_one (ps_ret pe_bl)) pss_nil) (pss_cons (ps_set (i := 4) sc__law_right.nd rfl (Or.inl rfl) (pe_op op_add pe_int (pe_f c__law_scoop hr (by decide) rfl (pa_cons (pv 0) (pa_cons pe_int pa_nil))))) (pss_cons (ps_set (i := 5) sc__law_right.nd rfl (Or.inl rfl) (pe_f c__law_beating_table hr (by decide) rfl (pa_cons (pv 0) (pa_cons (pv 4) pa_nil)))) (pss_cons (ps_if (PW.pt (pw_or (pt_not (pt_val (pe_f c__law_is_told hr (by decide) rfl (pa_cons (pv 5) pa_nil)))) (pw_or1 (pt_cmpR op_ne (pe_fx0 cx_beat hr (by decide) rfl (pa_cons (pv 5) pa_nil)) (pv 4) (nomark _))))) (pss_one (ps_ret pe_bl)) pss_nil) (pss_cons (ps_set (i := 6) sc__law_right.nd rfl (Or.inl rfl) (pe_f c__law_beside hr (by decide) rfl (pa_cons (pv 3) (pa_cons (pv 5) (pa_cons (pe_f c__law_scoop hr (by decide) rfl (pa_cons (pv 0) (pa_cons pe_int pa_nil))) pa_nil))))) (pss_one (ps_ret (pe_and (pe_f c__law_is_told hr (by decide) rfl (pa_cons (pv 6) pa_nil)) (pe_one (pe_not (pe_f c_hangs_together hr (by decide) rfl (pa_cons (pv 6) pa_nil))))))))))))))), ?_⟩
    have E0' : RE TL S H H := ⟨hS, hTl, fun _ _ _ _ h => h⟩
    refine ⟨.ref S, rfl, S, 5, rfl, hS, by decide, by decide, fun H1 r r1 r0 r5 => ?_⟩
    obtain ⟨n, rfl⟩ : ∃ n : Nat, r = (n : Int) := ⟨r.toNat, (Int.toNat_of_nonneg r0).symm⟩
    have E1 := E0'.rs r1
    refine ⟨1, (n : Int), rfl, rfl, ?_⟩
    show tSeq _ _ _ [some (.ref S), some (.int ((1 + n : Nat) : Int)), none, none, none, none, none] H1
    have n5 : 1 + n ≤ 5 := by omega
    have n1 : 1 ≤ 1 + n := by omega
    generalize 1 + n = size at n5 n1
    refine ⟨.ref S, rfl, .int (size : Int), rfl, S, size, 2, rfl, E1.s1, by omega, by decide, by decide, fun H2 q m r2 hT ml hr0 he0 => ?_⟩
    have E2 := E1.rs r2
    have tT : Tab m := ⟨fun r hr' => by rw [ml]; exact hr0 r hr', he0, by omega, by omega⟩
    refine ⟨.ref S, rfl, .int (size : Int), rfl, S, size, 2, rfl, E2.s1, n1, by omega, by decide, by decide, fun H3 u g r3 hG gl tG hg => ⟨_, _, rfl, ?_⟩⟩
    have E3 := E2.rs r3
    have hT3 := tb_rs r3 hT
    show tSeq _ _ _ [some (.ref S), some (.int (size : Int)), some (.ref q), some (.ref u), none, none, none] H3
    refine ⟨.ref q, rfl, q, m, rfl, hT3, tT, E3.tl, fun H4 x4 t4 => ⟨true, rfl, ite0 rfl ?_⟩⟩
    have E4 := E3.ext x4 t4
    have hG4 := tb_ext x4 hG
    refine ⟨.ref u, rfl, u, g, rfl, hG4, tG, t4, fun H5 x5 t5 => ⟨true, rfl, ite0 rfl ?_⟩⟩
    have E5 := E4.ext x5 t5
    have hG5 := tb_ext x5 hG4
    refine ⟨.ref u, rfl, u, g, rfl, hG5, tG, fun H6 b e6 hb => ⟨b, rfl, ?_⟩⟩
    obtain rfl : b = true := hb.mpr hg
    refine ite0 rfl ?_
    have E6 := E5.same e6
    have hG6 := tb_same e6 hG5
    show tSeq _ _ _ [some (.ref S), some (.int (size : Int)), some (.ref q), some (.ref u), none, none, none] H6
    refine ⟨.ref S, rfl, .ref u, rfl, S, u, g, rfl, E6.s1, hG6, tG, fun H7 q' g' o r7 hG' tG' mv => ⟨q', g', rfl, hG', tG', fun hg' H8 b8 e8 bt8 => ?_, fun nh => absurd (mv.hg hg) nh⟩⟩
    have E8 := (E6.rs r7).same e8
    have hG8 := tb_same e8 (tb_rs r7 hG6)
    refine ⟨.ref u, rfl, u, g, rfl, hG8, tG, fun _ H9 b9 e9 bt9 => ⟨rfl, _, rfl, ite0 ?_ ?_⟩, fun nh => absurd hg nh⟩
    · rw [Tb.Bt.uniq bt8 (mv.bt hg (show 0 < g.length by omega) bt9), decide_eq_true rfl]
      rfl
    have E9 := E8.same e9
    have hG9 := tb_same e9 hG8
    show tSeq _ _ _ [some (.ref S), some (.int (size : Int)), some (.ref q), some (.ref u), none, none, none] H9
    refine ⟨.ref S, rfl, S, 4, rfl, E9.s1, by decide, by decide, fun H10 r r10 r0 r4 => ?_⟩
    obtain ⟨k4, rfl⟩ : ∃ n : Nat, r = (n : Int) := ⟨r.toNat, (Int.toNat_of_nonneg r0).symm⟩
    have E10 := E9.rs r10
    have hG10 := tb_rs r10 hG9
    refine ⟨1, (k4 : Int), rfl, rfl, ?_⟩
    show tSeq _ _ _ [some (.ref S), some (.int (size : Int)), some (.ref q), some (.ref u), some (.int ((1 + k4 : Nat) : Int)), none, none] H10
    have k5 : 1 + k4 ≤ 4 := by omega
    have k1 : 1 ≤ 1 + k4 := by omega
    generalize 1 + k4 = many at k5 k1
    refine ⟨.ref S, rfl, .int (many : Int), rfl, S, many, rfl, E10.s1, k1, k5, fun H11 z bm r11 hB tB bl hgB btB => ?_⟩
    have E11 := E10.rs r11
    have hG11 := tb_rs r11 hG10
    show tSeq _ _ _ [some (.ref S), some (.int (size : Int)), some (.ref q), some (.ref u), some (.int (many : Int)), some (.ref z), none] H11
    refine ⟨.ref z, rfl, z, bm, rfl, hB, tB, E11.tl, fun H12 x12 t12 => ⟨true, rfl, ite0 rfl ?_⟩⟩
    have E12 := E11.ext x12 t12
    have hG12 := tb_ext x12 hG11
    have hB12 := tb_ext x12 hB
    refine ⟨.ref z, rfl, z, bm, rfl, hB12, tB, fun _ H13 b13 e13 bt13 => ⟨.int (many : Int), rfl, rfl, _, rfl, ite0 ?_ ?_⟩, fun nh => absurd hgB nh⟩
    · rw [Tb.Bt.uniq bt13 btB, decide_eq_true rfl]
      rfl
    have E13 := E12.same e13
    have hG13 := tb_same e13 hG12
    have hB13 := tb_same e13 hB12
    show tSeq _ _ _ [some (.ref S), some (.int (size : Int)), some (.ref q), some (.ref u), some (.int (many : Int)), some (.ref z), none] H13
    refine ⟨.ref u, rfl, .ref z, rfl, .ref S, rfl, S, 2, rfl, E13.s1, by decide, by decide, fun H14 l r14 l0 l2 => ?_⟩
    have E14 := E13.rs r14
    refine ⟨u, z, g, bm, l, rfl, tb_rs r14 hG13, tG, tb_rs r14 hB13, tB, by omega, l0, by omega, fun H15 y m2 e15 hY tY nY => ?_⟩
    have E15 := E14.same e15
    show tRet (tAndV (tFn (spTold K TL) (tCons (tVar 6) tNil)) (tNotV (tFn (spHang K) (tCons (tVar 6) tNil)))) { nx := fun _ H' => Q V.non H', rt := Q } [some (.ref S), some (.int (size : Int)), some (.ref q), some (.ref u), some (.int (many : Int)), some (.ref z), some (.ref y)] H15
    refine ⟨.ref y, rfl, y, m2, rfl, hY, tY, E15.tl, fun H16 x16 t16 => ⟨true, rfl, ite1 rfl ?_⟩⟩
    have E16 := E15.ext x16 t16
    refine ⟨.ref y, rfl, y, m2, rfl, tb_ext x16 hY, tY, fun H17 b e17 hb => ⟨b, rfl, ?_⟩⟩
    obtain rfl : b = false := by
      cases b
      · rfl
      · exact absurd (hb.mp rfl) nY
    exact k H17 (E16.same e17)
theorem cl__law_right {TL : List (Addr × Str)} (T : Txt K mg) (LF : lamFact P w K mg base TL) : Cl P w K mg base 10 "_law_right" (spRight K TL) := by
  obtain ⟨f, fd, F, hm, hb⟩ := T.f__law_right
  exact cl_of (ok__law_right F T LF) hm F.kp hb
/-! the law's own tables -/
instance decE (m : Tb.M) (i j : Nat) : Decidable (Tb.E m i j) := inferInstanceAs (Decidable (i < m.length ∧ j < m.length ∧ 0 < Tb.en m i j))
instance decP (m : Tb.M) : ∀ (l : List Nat) (i j : Nat), Decidable (Tb.P m i l j)
  | [], i, j => inferInstanceAs (Decidable (i = j))
  | k :: l, i, j => @instDecidableAnd _ _ (decE m i k) (decP m l k j)
def mTurn : Tb.M := [[0, 1], [1, 0]]
def mFib : Tb.M := [[1, 1], [1, 0]]
def mThree : Tb.M := [[3]]
def mZero : Tb.M := [[0]]
def mSteps : Tb.M := [[1, 1, 0], [0, 0, 1], [0, 0, 2]]
theorem hg_turn : Tb.Hg mTurn := fun i j hi hj => by
  have hi : i < 2 := hi
  have hj : j < 2 := hj
  match i, j with
  | 0, 0 => exact ⟨[1, 0], by decide, by decide⟩
  | 0, 1 => exact ⟨[1], by decide, by decide⟩
  | 1, 0 => exact ⟨[0], by decide, by decide⟩
  | 1, 1 => exact ⟨[0, 1], by decide, by decide⟩
  | 0, j + 2 => omega
  | 1, j + 2 => omega
  | i + 2, _ => omega
theorem hg_fib : Tb.Hg mFib := fun i j hi hj => by
  have hi : i < 2 := hi
  have hj : j < 2 := hj
  match i, j with
  | 0, 0 => exact ⟨[0], by decide, by decide⟩
  | 0, 1 => exact ⟨[1], by decide, by decide⟩
  | 1, 0 => exact ⟨[0], by decide, by decide⟩
  | 1, 1 => exact ⟨[0, 1], by decide, by decide⟩
  | 0, j + 2 => omega
  | 1, j + 2 => omega
  | i + 2, _ => omega
theorem hg_three : Tb.Hg mThree := fun i j hi hj => by
  have hi : i < 1 := hi
  have hj : j < 1 := hj
  match i, j with
  | 0, 0 => exact ⟨[0], by decide, by decide⟩
  | 0, j + 1 => omega
  | i + 1, _ => omega
theorem nh_zero : ¬ Tb.Hg mZero := fun h => by
  obtain ⟨l, hl, hp⟩ := h 0 0 (by decide) (by decide)
  cases l with
  | nil => exact hl rfl
  | cons k l =>
    have hk : k < 1 := hp.1.2.1
    obtain rfl : k = 0 := by omega
    exact absurd hp.1 (by decide)
theorem steps_e : ∀ {i j : Nat}, Tb.E mSteps i j → i ≤ j := fun {i j} h => by
  have key : ∀ i, i < 3 → ∀ j, j < 3 → Tb.E mSteps i j → i ≤ j := by decide
  exact key i h.1 j h.2.1 h
theorem steps_p : ∀ {l : List Nat} {i j : Nat}, Tb.P mSteps i l j → i ≤ j
  | [], _, _, h => Nat.le_of_eq h
  | _ :: _, _, _, h => Nat.le_trans (steps_e h.1) (steps_p h.2)
theorem nh_steps : ¬ Tb.Hg mSteps := fun h => by
  obtain ⟨l, _, hp⟩ := h 1 0 (by decide) (by decide)
  have := steps_p hp
  omega
theorem bt_turn : Tb.Bt mTurn 0 2 := by
  refine Tb.bt_steps hg_turn (by decide) (d := fun i => (i : Int)) rfl (fun i hi => ?_) (by decide) fun h => ⟨fun hd i j e => ?_, fun H => ?_⟩
  · have hi : i < 2 := hi
    match i with
    | 0 => exact ⟨[], rfl, rfl⟩
    | 1 => exact ⟨[1], by decide, rfl⟩
    | i + 2 => omega
  · have hi : i < 2 := e.1
    have hj : j < 2 := e.2.1
    match i, j with
    | 0, 0 => exact absurd e (by decide)
    | 0, 1 => exact Int.dvd_zero h
    | 1, 0 => exact hd
    | 1, 1 => exact absurd e (by decide)
    | 0, j + 2 => omega
    | 1, j + 2 => omega
    | i + 2, _ => omega
  · exact H 1 0 (by decide)
theorem bt_fib : Tb.Bt mFib 0 1 := by
  refine Tb.bt_steps hg_fib (by decide) (d := fun i => (i : Int)) rfl (fun i hi => ?_) (by decide) fun h => ⟨fun hd i j e => Int.dvd_trans hd (Int.one_dvd _), fun H => ?_⟩
  · have hi : i < 2 := hi
    match i with
    | 0 => exact ⟨[], rfl, rfl⟩
    | 1 => exact ⟨[1], by decide, rfl⟩
    | i + 2 => omega
  · exact H 0 0 (by decide)
theorem bt_three : Tb.Bt mThree 0 1 := by
  refine Tb.bt_steps hg_three (by decide) (d := fun i => (i : Int)) rfl (fun i hi => ?_) (by decide) fun h => ⟨fun hd i j e => Int.dvd_trans hd (Int.one_dvd _), fun H => ?_⟩
  · have hi : i < 1 := hi
    match i with
    | 0 => exact ⟨[], rfl, rfl⟩
    | i + 1 => omega
  · exact H 0 0 (by decide)
theorem parts_steps : partsM mSteps 3 = [[0], [1], [2]] := by
  have e : clsM mSteps = fun i => (List.range 3).filter fun j => decide (j = i) := by
    funext i
    unfold clsM Tb.cls
    refine List.filter_congr fun j _ => ?_
    rw [Bool.eq_iff_iff, Bool.or_eq_true, decide_eq_true_iff, Bool.and_eq_true, rB_iff, rB_iff]
    constructor
    · rintro (h | ⟨⟨_, _, h1⟩, ⟨_, _, h2⟩⟩)
      · exact h
      · have := steps_p h1
        have := steps_p h2
        omega
    · exact fun h => .inl h
  unfold partsM Tb.firsts
  have e2 : Tb.cls (rB mSteps) mSteps.length = fun i => (List.range 3).filter fun j => decide (j = i) := e
  rw [e, e2]
  decide
theorem parts_turn : partsM mTurn 2 = [[0, 1]] := by
  have e : ∀ i, i < 2 → clsM mTurn i = [0, 1] := fun i hi => by
    unfold clsM Tb.cls
    rw [List.filter_eq_self.mpr fun j hj => ?_]
    · rfl
    · have hj2 : j < 2 := List.mem_range.mp hj
      rw [Bool.or_eq_true, decide_eq_true_iff, Bool.and_eq_true, rB_iff, rB_iff]
      exact .inr ⟨hg_turn i j hi hj2, hg_turn j i hj2 hi⟩
  rw [show (2 : Nat) = 1 + 1 from rfl, partsM_succ, show (1 : Nat) = 0 + 1 from rfl, partsM_succ, e 0 (by decide), e 1 (by decide)]
  rfl
abbrev lamQL : Str := (PyProof.Rows.envOfC "law" (defScope st_law) 0 0 .none).qual ++ "<lambda>"
def spLaw (K : PySem.W.Frag) (TL : List (Addr × Str)) : Sp := fun vs H Q _ => ∃ (a : Addr) (ns : List Int), vs = [.ref a] ∧ SqL K H a (ns.map V.int) ∧ ns.length ≤ 63 ∧ LamX.Tabs TL H ∧ ∀ H', Q (.bl true) H'
theorem sqL_re {TL : List (Addr × Str)} {S a : Addr} {xs : List V} {H H1 G : Hp} (hS : H S = none) (e1 : Same H H1) (e : RE TL S H1 G) (h : SqL K H a xs) : SqL K G a xs := by
  rcases h with (h | ⟨o, h⟩) | h
  · exact .inl (.inl (e.keep _ _ (fun q => by rw [q, hS] at h; cases h) (fun _ z => by cases z) (e1 _ _ h)))
  · exact .inl (.inr ⟨o, e.keep _ _ (fun q => by rw [q, hS] at h; cases h) (fun _ z => by cases z) (e1 _ _ h)⟩)
  · exact .inr h
theorem rws_dp {H : Hp} : ∀ {ps : List V} {rows : Tb.M}, DpAll K H ps (rows.map tupD) → RwA K H ps rows
  | [], [], _ => rwa_nil
  | p :: ps, r :: rows, h => by
    cases h with
    | cons h1 h2 =>
      have ih := rws_dp h2
      refine ⟨congrArg (· + 1) ih.1, fun i q s hq hs => ?_⟩
      cases i with
      | zero =>
        cases hq
        cases hs
        cases h1 with
        | tup ha hd => exact ⟨_, rfl, by rw [← dpa_ints hd]; exact ha⟩
      | succ i => exact ih.2 i q s hq hs
theorem tb_dp {H : Hp} {v : V} {m : Tb.M} (h : Dp K H v (tabD m)) : ∃ a, v = .ref a ∧ TbT K H a m := by
  cases h with
  | tup ha hd => exact ⟨_, rfl, _, ha, rws_dp hd⟩
section
variable {σ : L2.St} {H : Hp} {te : TE} {m : Tb.M}
theorem es_beat {g : Int} (h : EvS te σ H (N0.IsD K (tabD m))) (t : Tab m) (hg : Tb.Hg m) (bt : Tb.Bt m 0 g) : EvS (tFn (spBeat K mg) (tCons te tNil)) σ H (IsV (.int g)) := fun H1 e Q q =>
  h H1 e _ fun v H2 e2 hv => by
    obtain ⟨a, rfl, hT⟩ := tb_dp hv
    exact ⟨a, m, rfl, hT, t, fun _ H' f e' bf => q _ _ (Same.trans e2 e') (by rw [Tb.Bt.uniq bf bt]), fun nh => absurd hg nh⟩
theorem es_hang {b : Bool} (h : EvS te σ H (N0.IsD K (tabD m))) (t : Tab m) (hb : b = true ↔ Tb.Hg m) : EvS (tFn (spHang K) (tCons te tNil)) σ H (IsV (.bl b)) := fun H1 e Q q =>
  h H1 e _ fun v H2 e2 hv => by
    obtain ⟨a, rfl, hT⟩ := tb_dp hv
    exact ⟨a, m, rfl, hT, t, fun H' b' e' hb' => q _ _ (Same.trans e2 e') (by rw [show b' = b from Bool.eq_iff_iff.mpr (hb'.trans hb.symm)])⟩
theorem es_pieces (h : EvS te σ H (N0.IsD K (tabD m))) (t : Tab m) : EvS (tFn (spPieces K) (tCons te tNil)) σ H (N0.IsD K (tabD (partsM m m.length))) := fun H1 e Q q =>
  h H1 e _ fun v H2 e2 hv => by
    obtain ⟨a, rfl, hT⟩ := tb_dp hv
    exact ⟨a, m, rfl, hT, t, fun H' z e' hz => q _ _ (Same.trans e2 e') (dp_tab hz)⟩
theorem isV_int {i : Int} (h : EvS te σ H (IsV (.int i))) : EvS te σ H (N0.IsD K (.int i)) := es_imp h fun v H' _ ev => by rw [show v = _ from ev]; exact .int i
theorem es_r1 (i : Int) : EvS (tTup (tCons (tC (.int i)) tNil)) σ H (N0.IsD K (tupD [i])) := es_tup (edc (es_int i) ed0) (by show 1 ≤ 1000; decide)
theorem es_r2 (i j : Int) : EvS (tTup (tCons (tC (.int i)) (tCons (tC (.int j)) tNil))) σ H (N0.IsD K (tupD [i, j])) := es_tup (edc (es_int i) (edc (es_int j) ed0)) (by show 2 ≤ 1000; decide)
theorem es_r3 (i j k : Int) : EvS (tTup (tCons (tC (.int i)) (tCons (tC (.int j)) (tCons (tC (.int k)) tNil)))) σ H (N0.IsD K (tupD [i, j, k])) := es_tup (edc (es_int i) (edc (es_int j) (edc (es_int k) ed0))) (by show 3 ≤ 1000; decide)
theorem es_apart : EvS (tTup (tCons (tC (.str "refused")) (tCons (tTup (tCons (tC (.str "apart")) tNil)) tNil))) σ H (N0.IsD K apartD) := es_tup (edc (evs_c fun _ _ => .str _) (edc (es_tup (edc (evs_c fun _ _ => .str _) ed0) (by show 1 ≤ 1000; decide)) ed0)) (by show 2 ≤ 1000; decide)
end
theorem told_arg {te : TE} {sp : Sp} {CS : Addr} {fl ret : Str} {σ : L2.St} {H : Hp} {Q : VK} {P : V → Hp → Prop} (h : EvS te σ H P) (rest : ∀ v H1, Same H H1 → P v H1 → sp [v] H1 Q (fun cls d H' => cls = .ref CS ∧ ∃ (dd : Addr) (fs : List (Str × V)) (v : V), d = some dd ∧ H' dd = some (.xd fs) ∧ fs.lookup fl = some v ∧ ∀ p, H' p = none → Q (.ref p) (upd H' p (.tup [.str ret, v])))) :
    TTold2 CS fl ret (fun E H' Q' => (fun E2 => tFx E2 sp (tCons te tNil)) E σ H' Q') H Q := h H (Same.refl _) _ fun v H1 e p => rest v H1 e p
theorem tab_of {m : Tb.M} (h : decide ((∀ r ∈ m, r.length = m.length) ∧ (∀ r ∈ m, ∀ e ∈ r, 0 ≤ e ∧ e ≤ 1000) ∧ 1 ≤ m.length ∧ m.length ≤ 24) = true) : Tab m := let ⟨a, b, c, d⟩ := of_decide_eq_true h; ⟨a, b, c, d⟩
theorem ok_law {TL : List (Addr × Str)} {f c Pt : Addr} {fd : FuncData} (F : Fun K "law" "law" st_law f fd) (T : Txt K mg) (LF : lamFact P w K mg base TL) (LT : LamT base mg TL fd lamQL c Pt) : FnOk P w K mg base CX0 11 f fd ["script"] (spLaw K TL) := by
  have c__law_right : Cl P w K mg base 10 "_law_right" (spRight K TL) := cl__law_right T LF
  have c__law_basin : Cl P w K mg base 1 "_law_basin" (spJar K) := cl__law_basin T
  have c_hangs_together : Cl P w K mg base 6 "hangs_together" (spHang K) := cl_hangs_together T
  have c_pieces_of : Cl P w K mg base 6 "pieces_of" (spPieces K) := cl_pieces_of T
  have cx_beat : Clx P w K mg base 6 "beat" (spBeat K mg) := clx_beat T
  have tells__law_told := tells__law_told' T
  refine okN F LT.code sc_law (fun vs H Q E h => ?_) (fun A outer s H vs Q E hr h => ?_)
  · obtain ⟨a, ns, rfl, _⟩ := h
    rfl
  · obtain ⟨a, ns, rfl, h, hl, hTl, k⟩ := h
    refine ⟨_, (pss_cons (ps_for PassesOwn.never rfl (pi_range1 rfl T.n_range (pa_cons (pe_callB (call_max2 rfl) (by rfl) T.n_max bo_max (pa_cons pe_int (pa_cons (pe_callB (call_min2 rfl) (by rfl) T.n_min bo_min (pa_cons pe_int (pa_cons (pe_callB (kcall_len (K := K)) (by rfl) T.n_len bo_len (pa_cons (pv 0) pa_nil)) pa_nil))) pa_nil))) pa_nil)) (pg_name (i := 1) sc_law.nd rfl (Or.inl rfl)) (pss_one (ps_if (pt_not (pt_val (pe_f c__law_right hr (by decide) rfl (pa_cons (pe_f c__law_basin hr (by decide) rfl (pa_cons (pv 0) (pa_cons (pv 1) pa_nil))) pa_nil)))) (pss_one (ps_ret pe_bl)) pss_nil))) (pss_cons (ps_asg (pe_tup (pa_cons (pe_tup (pa_cons (pe_tup (pa_cons pe_int (pa_cons pe_int pa_nil))) (pa_cons (pe_tup (pa_cons pe_int (pa_cons pe_int pa_nil))) pa_nil))) (pa_cons (pe_tup (pa_cons (pe_tup (pa_cons pe_int (pa_cons pe_int (pa_cons pe_int pa_nil)))) (pa_cons (pe_tup (pa_cons pe_int (pa_cons pe_int (pa_cons pe_int pa_nil)))) (pa_cons (pe_tup (pa_cons pe_int (pa_cons pe_int (pa_cons pe_int pa_nil)))) pa_nil)))) pa_nil))) (kpg_tup (K := K) (n := 2) rfl (pgs_cons (pg_name (i := 2) sc_law.nd rfl (Or.inl rfl)) (pgs_cons (pg_name (i := 3) sc_law.nd rfl (Or.inl rfl)) pgs_nil)))) (pss_cons (ps_if (PW.pt (pw_or (pt_cmpR (kop_neD (K := K) hr.units) (pe_lst (pa_cons (pe_fx0 cx_beat hr (by decide) rfl (pa_cons (pv 2) pa_nil)) (pa_cons (pe_fx0 cx_beat hr (by decide) rfl (pa_cons (pe_tup (pa_cons (pe_tup (pa_cons pe_int (pa_cons pe_int pa_nil))) (pa_cons (pe_tup (pa_cons pe_int (pa_cons pe_int pa_nil))) pa_nil))) pa_nil)) (pa_cons (pe_fx0 cx_beat hr (by decide) rfl (pa_cons (pe_tup (pa_cons (pe_tup (pa_cons pe_int pa_nil)) pa_nil)) pa_nil)) pa_nil)))) (pe_lst (pa_cons pe_int (pa_cons pe_int (pa_cons pe_int pa_nil)))) (nomark _)) (pw_or1 (pt_val (pe_f c_hangs_together hr (by decide) rfl (pa_cons (pe_tup (pa_cons (pe_tup (pa_cons pe_int pa_nil)) pa_nil)) pa_nil)))))) (pss_one (ps_ret pe_bl)) pss_nil) (pss_cons (ps_if (PW.pt (pw_or (pt_cmpR (kop_neD (K := K) hr.units) (pe_f c_pieces_of hr (by decide) rfl (pa_cons (pv 3) pa_nil)) (pe_tup (pa_cons (pe_tup (pa_cons pe_int pa_nil)) (pa_cons (pe_tup (pa_cons pe_int pa_nil)) (pa_cons (pe_tup (pa_cons pe_int pa_nil)) pa_nil)))) (nomark _)) (pw_or (pt_val (pe_f c_hangs_together hr (by decide) rfl (pa_cons (pv 3) pa_nil))) (pw_or1 (pt_cmpR (kop_neD (K := K) hr.units) (pe_f c_pieces_of hr (by decide) rfl (pa_cons (pv 2) pa_nil)) (pe_tup (pa_cons (pe_tup (pa_cons pe_int (pa_cons pe_int pa_nil))) pa_nil)) (nomark _)))))) (pss_one (ps_ret pe_bl)) pss_nil) (pss_one (ps_ret (pe_cmpR (kop_eqD (K := K) hr.units) (pe_tells tells__law_told rfl (fun _ _ => gives__law_told T rfl rfl) LT rfl hr (LamX.lamS_by rfl) rfl (fun _ _ _ _ _ => rfl) (fun A2 outer2 s2 H2 E2 f2 c2 hr2 => (pe_fx (E := E2) cx_beat hr2 (by decide) rfl (takes_of rfl rfl rfl rfl) (fun _ _ _ _ h => h) (pa_cons (pe_tup (pa_cons (pe_tup (pa_cons pe_int pa_nil)) pa_nil)) pa_nil)))) (pe_tup (pa_cons pe_str (pa_cons (pe_tup (pa_cons pe_str pa_nil)) pa_nil))) (nomark _)))))))), ?_⟩
    refine ⟨.ref a, rfl, a, _, rfl, .inl h, _, _, rfl, _, _, rfl, _, rfl, by split <;> split <;> omega, by split <;> split <;> omega, for_range (lo := 0) (fun i σ H' => SqL K H' a (ns.map V.int) ∧ LamX.Tabs TL H' ∧ ∃ x, σ = [some (.ref a), x, none, none]) ⟨h, hTl, none, rfl⟩ (fun i σ H' hi p => ?_) fun σ H' p => ?_⟩
    · obtain ⟨h1, t1, x, rfl⟩ := p
      refine ⟨.ref a, rfl, _, rfl, a, ns, _, rfl, h1, by omega, fun H1 S e1 hS hs => ⟨S, rfl, hs, t1.ext e1, fun H2 r2 => ⟨true, rfl, ?_⟩⟩⟩
      exact ⟨sqL_re hS e1 r2 h1, r2.tl, _, rfl⟩
    · obtain ⟨h1, t1, x, rfl⟩ := p
      dsimp only
      refine tup_seq (P := N0.IsD K (tabD mTurn)) (fun v u G => Same H' G ∧ N0.IsD K (tabD mTurn) v G ∧ N0.IsD K (tabD mSteps) u G) (es_tup (edc (es_r2 0 1) (edc (es_r2 1 0) ed0)) (by decide)) (fun v H1 e1 hv Q' hQ => (es_tup (edc (es_r3 1 1 0) (edc (es_r3 0 0 1) (edc (es_r3 0 0 2) ed0))) (by decide) : EvS _ _ H1 (N0.IsD K (tabD mSteps))) H1 (Same.refl _) _ fun u H2 e2 hu => hQ u H2 ⟨Same.trans e1 e2, dp_same e2 _ _ hv, hu⟩) fun v u G H2 ⟨e1, hvG, huG⟩ e2 => ?_
      have hv2 := dp_same e2 _ _ hvG
      have hu := dp_same e2 _ _ huG
      show tSeq _ _ _ [some (.ref a), x, some v, some u] H2
      refine ifno_seq (eb_or (eb_test (es_neD (es_lst (edc (isV_int (es_beat (es_var rfl hv2) (tab_of (by decide)) hg_turn bt_turn)) (edc (isV_int (es_beat (m := mFib) (es_tup (edc (es_r2 1 1) (edc (es_r2 1 0) ed0)) (by decide)) (tab_of (by decide)) hg_fib bt_fib)) (edc (isV_int (es_beat (m := mThree) (es_tup (edc (es_r1 3) ed0) (by decide)) (tab_of (by decide)) hg_three bt_three)) ed0))) (by decide)) (es_lst (edc (es_int 2) (edc (es_int 1) (edc (es_int 1) ed0))) (by decide)) (by decide +kernel) (by decide +kernel) (by decide +kernel)))
        (eb_b (es_hang (b := false) (m := mZero) (es_tup (edc (es_r1 0) ed0) (by decide)) (tab_of (by decide)) ⟨fun z => (by cases z), fun z => absurd z nh_zero⟩))) fun H3 e3 => ?_
      have hv3 := dp_same e3 _ _ hv2
      have hu3 := dp_same e3 _ _ hu
      refine ifno_seq (eb_or (eb_test (es_neD (e := tabD [[0], [1], [2]]) (es_pieces (es_var rfl hu3) (tab_of (by decide))) (es_tup (edc (es_r1 0) (edc (es_r1 1) (edc (es_r1 2) ed0))) (by decide)) (shaped_tabD _) (shaped_tabD _) (by rw [eqv_tabD]; exact decide_eq_true parts_steps)))
        (eb_or (eb_b (es_hang (b := false) (es_var rfl hu3) (tab_of (by decide)) ⟨fun z => (by cases z), fun z => absurd z nh_steps⟩)) (eb_test (es_neD (e := tabD [[0, 1]]) (es_pieces (es_var rfl hv3) (tab_of (by decide))) (es_tup (edc (es_r2 0 1) ed0) (by decide)) (shaped_tabD _) (shaped_tabD _) (by rw [eqv_tabD]; exact decide_eq_true parts_turn))))) fun H4 e4 => ?_
      refine ⟨t1.ext (Same.trans e1 (Same.trans e2 (Same.trans e3 e4))), fun H5 x5 t5 => ?_⟩
      refine told_arg (P := N0.IsD K (tabD mZero)) (es_tup (edc (es_r1 0) ed0) (by decide)) fun z H6 e6 hz => ?_
      obtain ⟨za, rfl, hzT⟩ := tb_dp hz
      refine ⟨za, mZero, rfl, hzT, tab_of (by decide), fun hg => absurd hg nh_zero, fun nh H7 d ap => ?_⟩
      obtain ⟨e7, r, hd, hr7⟩ := ap
      refine ⟨rfl, d, _, .ref r, rfl, hd, rfl, fun p' hp' => es_apart (K := K) _ (Same.refl _) _ fun y H8 e8 hy => ?_⟩
      have e9 := new_same (o := .tup [.str "refused", .ref r]) hp'
      refine ⟨apartD, apartD, dp_same e8 _ _ (dp_apart (tup_of upd_same) (same_tup e9 hr7)), hy, by decide +kernel, by decide +kernel, ?_⟩
      rw [show PyData.eqv apartD apartD = true from by decide]
      exact k H8
end
theorem all_mk {P : Program} {w : World} {K : PySem.W.Frag} {h : Heap} {mg : Str → Option Value} {fa : Addr}
    {C_Refused N_Refused I_Refused : Addr} {nmx_Refused qnx_Refused qx_Refused : Str} {bsx_Refused : List Value} {snx_Refused : List Str} {sbx_Refused : List Value} {abx_Refused : Bool} {clx_Refused : Option Bool} {ddx_Refused odx_Refused anx_Refused : Option Addr} {k0_Refused k1_Refused k2_Refused k3_Refused k5_Refused : Option Value} {ocx_Refused dcx_Refused pmx_Refused cdx_Refused ctx_Refused : Value} {slx_Refused : Array (Option Value)} {px1_Refused px2_Refused qx1_Refused qx2_Refused qx3_Refused qx4_Refused : Pos}
    {f1 : Addr} {od1 an1 : Option Addr} {sl1 : Array (Option Value)} {oc1 kV1 dc1 pm1 cd1 ct1 : Value}
    {f2 : Addr} {od2 an2 : Option Addr} {sl2 : Array (Option Value)} {oc2 kV2 dc2 pm2 cd2 ct2 : Value}
    {f3 : Addr} {od3 an3 : Option Addr} {sl3 : Array (Option Value)} {oc3 kV3 dc3 pm3 cd3 ct3 : Value}
    {f4 : Addr} {od4 an4 : Option Addr} {sl4 : Array (Option Value)} {oc4 kV4 dc4 pm4 cd4 ct4 : Value}
    {f5 : Addr} {od5 an5 : Option Addr} {sl5 : Array (Option Value)} {oc5 kV5 dc5 pm5 cd5 ct5 : Value}
    {f6 : Addr} {od6 an6 : Option Addr} {sl6 : Array (Option Value)} {oc6 kV6 dc6 pm6 cd6 ct6 : Value}
    {f7 : Addr} {od7 an7 : Option Addr} {sl7 : Array (Option Value)} {oc7 kV7 dc7 pm7 cd7 ct7 : Value}
    {f8 : Addr} {od8 an8 : Option Addr} {sl8 : Array (Option Value)} {oc8 kV8 dc8 pm8 cd8 ct8 : Value}
    {f9 : Addr} {od9 an9 : Option Addr} {sl9 : Array (Option Value)} {oc9 kV9 dc9 pm9 cd9 ct9 : Value}
    {f10 : Addr} {od10 an10 : Option Addr} {sl10 : Array (Option Value)} {oc10 kV10 dc10 pm10 cd10 ct10 : Value}
    {f11 : Addr} {od11 an11 : Option Addr} {sl11 : Array (Option Value)} {oc11 kV11 dc11 pm11 cd11 ct11 : Value}
    {f12 : Addr} {od12 an12 : Option Addr} {sl12 : Array (Option Value)} {oc12 kV12 dc12 pm12 cd12 ct12 : Value}
    {f13 : Addr} {od13 an13 : Option Addr} {sl13 : Array (Option Value)} {oc13 kV13 dc13 pm13 cd13 ct13 : Value}
    {f14 : Addr} {od14 an14 : Option Addr} {sl14 : Array (Option Value)} {oc14 kV14 dc14 pm14 cd14 ct14 : Value}
    {f15 : Addr} {od15 an15 : Option Addr} {sl15 : Array (Option Value)} {oc15 kV15 dc15 pm15 cd15 ct15 : Value}
    {f16 : Addr} {od16 an16 : Option Addr} {sl16 : Array (Option Value)} {oc16 kV16 dc16 pm16 cd16 ct16 : Value}
    {f17 : Addr} {od17 an17 : Option Addr} {sl17 : Array (Option Value)} {oc17 kV17 dc17 pm17 cd17 ct17 : Value}
    {f18 : Addr} {od18 an18 : Option Addr} {sl18 : Array (Option Value)} {oc18 kV18 dc18 pm18 cd18 ct18 : Value}
    {f19 : Addr} {od19 an19 : Option Addr} {sl19 : Array (Option Value)} {oc19 kV19 dc19 pm19 cd19 ct19 : Value}
    {f20 : Addr} {od20 an20 : Option Addr} {sl20 : Array (Option Value)} {oc20 kV20 dc20 pm20 cd20 ct20 : Value}
    {f21 : Addr} {od21 an21 : Option Addr} {sl21 : Array (Option Value)} {oc21 kV21 dc21 pm21 cd21 ct21 : Value}
    {f22 : Addr} {od22 an22 : Option Addr} {sl22 : Array (Option Value)} {oc22 kV22 dc22 pm22 cd22 ct22 : Value}
    {f23 : Addr} {od23 an23 : Option Addr} {sl23 : Array (Option Value)} {oc23 kV23 dc23 pm23 cd23 ct23 : Value}
    {f24 : Addr} {od24 an24 : Option Addr} {sl24 : Array (Option Value)} {oc24 kV24 dc24 pm24 cd24 ct24 : Value}
    {f25 : Addr} {od25 an25 : Option Addr} {sl25 : Array (Option Value)} {oc25 kV25 dc25 pm25 cd25 ct25 : Value}
    {f26 : Addr} {od26 an26 : Option Addr} {sl26 : Array (Option Value)} {oc26 kV26 dc26 pm26 cd26 ct26 : Value}
    {f27 : Addr} {od27 an27 : Option Addr} {sl27 : Array (Option Value)} {oc27 kV27 dc27 pm27 cd27 ct27 : Value}
    {f28 : Addr} {od28 an28 : Option Addr} {sl28 : Array (Option Value)} {oc28 kV28 dc28 pm28 cd28 ct28 : Value}
    {f29 : Addr} {od29 an29 : Option Addr} {sl29 : Array (Option Value)} {oc29 kV29 dc29 pm29 cd29 ct29 : Value}
    {f30 : Addr} {od30 an30 : Option Addr} {sl30 : Array (Option Value)} {oc30 kV30 dc30 pm30 cd30 ct30 : Value}
    {t_MAX_PASSED : Tok}
    {t_MAX_TIES : Tok}
    {q : Program} {l : PySem.W.OpenLaw}
    (X : K.In h)
    (G : h.Ns mainGlobals mg)
    (hfa : mg "law" = some (.ref fa))
    (xa_Refused : PySem.W.nsIn K mainGlobals "Refused" = some (some (.ref C_Refused)))
    (xl_Refused : K.lookup C_Refused = some (excClassObj nmx_Refused qnx_Refused C_Refused N_Refused bsx_Refused [.type "ArithmeticError", .type "Exception", .type "BaseException", .type "object"] true snx_Refused sbx_Refused abx_Refused clx_Refused ddx_Refused k0_Refused k1_Refused k2_Refused k3_Refused k5_Refused "ArithmeticError.__new__"))
    (xs_Refused : PySem.W.findIn K (.ref C_Refused) "__setattr__" = some (some (.builtin "object.__setattr__")))
    (xg_Refused : PySem.W.findIn K (.ref C_Refused) "__getattribute__" = some (some (.builtin "BaseException.__getattribute__")))
    (xh_Refused : PySem.W.findIn K (.ref C_Refused) "__getattr__" = some none)
    (xn_Refused : PySem.W.findIn K (.ref C_Refused) "reason" = some none)
    (xi_Refused : PySem.W.findIn K (.ref C_Refused) "__init__" = some (some (.ref I_Refused)))
    (xt_Refused : PySem.W.typeIn K (.ref I_Refused) = some (.type "function"))
    (xk_Refused : PySem.W.keepIn K (.ref C_Refused) = true)
    (xe_Refused : PySem.W.subIn K (.ref C_Refused) (.type "BaseException") = some true)
    (xy_Refused : PySem.W.typeIn K (.ref C_Refused) = some (.type "type"))
    (xd_Refused : PySem.W.hasDictIn K C_Refused = true)
    (xf_Refused : K.lookup I_Refused = some ⟨ocx_Refused, odx_Refused, .func (PySem.W.fnOf "__init__" qx_Refused (PySem.One.arg1 "reason" px1_Refused px2_Refused) (PySem.One.bod1 "reason" qx1_Refused qx2_Refused qx3_Refused qx4_Refused) (PySem.One.sco1 "reason") .none .none dcx_Refused pmx_Refused anx_Refused cdx_Refused ctx_Refused), slx_Refused⟩)
    (xc_Refused : PySem.W.codeIn K cdx_Refused qx_Refused = true)
    (tb__law_is_told : (PySem.W.tabIn K "_law_is_told").isSome = true)
    (tn__law_is_told : (K.lookup ((PySem.W.tabIn K "_law_is_told").getD (0, 0)).2).isNone = true)
    (tb_law : (PySem.W.tabIn K "law").isSome = true)
    (tn_law : (K.lookup ((PySem.W.tabIn K "law").getD (0, 0)).2).isNone = true)
    (a1 : PySem.W.nsIn K mainGlobals "is_integer" = some (some (.ref f1)))
    (l1 : K.lookup f1 = some ⟨oc1, od1, .func (PySem.W.fnOf "is_integer" "is_integer" (defArgs st_is_integer) (defBody st_is_integer) (defScope st_is_integer) .none kV1 dc1 pm1 an1 cd1 ct1), sl1⟩)
    (c1 : PySem.W.codeIn K cd1 "is_integer" = true)
    (k1 : PySem.W.keepIn K (.ref f1) = true)
    (a2 : PySem.W.nsIn K mainGlobals "is_within" = some (some (.ref f2)))
    (l2 : K.lookup f2 = some ⟨oc2, od2, .func (PySem.W.fnOf "is_within" "is_within" (defArgs st_is_within) (defBody st_is_within) (defScope st_is_within) .none kV2 dc2 pm2 an2 cd2 ct2), sl2⟩)
    (c2 : PySem.W.codeIn K cd2 "is_within" = true)
    (k2 : PySem.W.keepIn K (.ref f2) = true)
    (a3 : PySem.W.nsIn K mainGlobals "is_passed" = some (some (.ref f3)))
    (l3 : K.lookup f3 = some ⟨oc3, od3, .func (PySem.W.fnOf "is_passed" "is_passed" (defArgs st_is_passed) (defBody st_is_passed) (defScope st_is_passed) .none kV3 dc3 pm3 an3 cd3 ct3), sl3⟩)
    (c3 : PySem.W.codeIn K cd3 "is_passed" = true)
    (k3 : PySem.W.keepIn K (.ref f3) = true)
    (a4 : PySem.W.nsIn K mainGlobals "is_count_table" = some (some (.ref f4)))
    (l4 : K.lookup f4 = some ⟨oc4, od4, .func (PySem.W.fnOf "is_count_table" "is_count_table" (defArgs st_is_count_table) (defBody st_is_count_table) (defScope st_is_count_table) .none kV4 dc4 pm4 an4 cd4 ct4), sl4⟩)
    (c4 : PySem.W.codeIn K cd4 "is_count_table" = true)
    (k4 : PySem.W.keepIn K (.ref f4) = true)
    (a5 : PySem.W.nsIn K mainGlobals "check_count_table" = some (some (.ref f5)))
    (l5 : K.lookup f5 = some ⟨oc5, od5, .func (PySem.W.fnOf "check_count_table" "check_count_table" (defArgs st_check_count_table) (defBody st_check_count_table) (defScope st_check_count_table) .none kV5 dc5 pm5 an5 cd5 ct5), sl5⟩)
    (c5 : PySem.W.codeIn K cd5 "check_count_table" = true)
    (k5 : PySem.W.keepIn K (.ref f5) = true)
    (a6 : PySem.W.nsIn K mainGlobals "check_together" = some (some (.ref f6)))
    (l6 : K.lookup f6 = some ⟨oc6, od6, .func (PySem.W.fnOf "check_together" "check_together" (defArgs st_check_together) (defBody st_check_together) (defScope st_check_together) .none kV6 dc6 pm6 an6 cd6 ct6), sl6⟩)
    (c6 : PySem.W.codeIn K cd6 "check_together" = true)
    (k6 : PySem.W.keepIn K (.ref f6) = true)
    (a7 : PySem.W.nsIn K mainGlobals "reached_from" = some (some (.ref f7)))
    (l7 : K.lookup f7 = some ⟨oc7, od7, .func (PySem.W.fnOf "reached_from" "reached_from" (defArgs st_reached_from) (defBody st_reached_from) (defScope st_reached_from) .none kV7 dc7 pm7 an7 cd7 ct7), sl7⟩)
    (c7 : PySem.W.codeIn K cd7 "reached_from" = true)
    (k7 : PySem.W.keepIn K (.ref f7) = true)
    (a8 : PySem.W.nsIn K mainGlobals "does_hang" = some (some (.ref f8)))
    (l8 : K.lookup f8 = some ⟨oc8, od8, .func (PySem.W.fnOf "does_hang" "does_hang" (defArgs st_does_hang) (defBody st_does_hang) (defScope st_does_hang) .none kV8 dc8 pm8 an8 cd8 ct8), sl8⟩)
    (c8 : PySem.W.codeIn K cd8 "does_hang" = true)
    (k8 : PySem.W.keepIn K (.ref f8) = true)
    (a9 : PySem.W.nsIn K mainGlobals "hangs_together" = some (some (.ref f9)))
    (l9 : K.lookup f9 = some ⟨oc9, od9, .func (PySem.W.fnOf "hangs_together" "hangs_together" (defArgs st_hangs_together) (defBody st_hangs_together) (defScope st_hangs_together) .none kV9 dc9 pm9 an9 cd9 ct9), sl9⟩)
    (c9 : PySem.W.codeIn K cd9 "hangs_together" = true)
    (k9 : PySem.W.keepIn K (.ref f9) = true)
    (a10 : PySem.W.nsIn K mainGlobals "pieces_of" = some (some (.ref f10)))
    (l10 : K.lookup f10 = some ⟨oc10, od10, .func (PySem.W.fnOf "pieces_of" "pieces_of" (defArgs st_pieces_of) (defBody st_pieces_of) (defScope st_pieces_of) .none kV10 dc10 pm10 an10 cd10 ct10), sl10⟩)
    (c10 : PySem.W.codeIn K cd10 "pieces_of" = true)
    (k10 : PySem.W.keepIn K (.ref f10) = true)
    (a11 : PySem.W.nsIn K mainGlobals "steps_from" = some (some (.ref f11)))
    (l11 : K.lookup f11 = some ⟨oc11, od11, .func (PySem.W.fnOf "steps_from" "steps_from" (defArgs st_steps_from) (defBody st_steps_from) (defScope st_steps_from) .none kV11 dc11 pm11 an11 cd11 ct11), sl11⟩)
    (c11 : PySem.W.codeIn K cd11 "steps_from" = true)
    (k11 : PySem.W.keepIn K (.ref f11) = true)
    (a12 : PySem.W.nsIn K mainGlobals "beat" = some (some (.ref f12)))
    (l12 : K.lookup f12 = some ⟨oc12, od12, .func (PySem.W.fnOf "beat" "beat" (defArgs st_beat) (defBody st_beat) (defScope st_beat) .none kV12 dc12 pm12 an12 cd12 ct12), sl12⟩)
    (c12 : PySem.W.codeIn K cd12 "beat" = true)
    (k12 : PySem.W.keepIn K (.ref f12) = true)
    (a13 : PySem.W.nsIn K mainGlobals "_law_basin" = some (some (.ref f13)))
    (l13 : K.lookup f13 = some ⟨oc13, od13, .func (PySem.W.fnOf "_law_basin" "_law_basin" (defArgs st__law_basin) (defBody st__law_basin) (defScope st__law_basin) .none kV13 dc13 pm13 an13 cd13 ct13), sl13⟩)
    (c13 : PySem.W.codeIn K cd13 "_law_basin" = true)
    (k13 : PySem.W.keepIn K (.ref f13) = true)
    (a14 : PySem.W.nsIn K mainGlobals "_law_scoop" = some (some (.ref f14)))
    (l14 : K.lookup f14 = some ⟨oc14, od14, .func (PySem.W.fnOf "_law_scoop" "_law_scoop" (defArgs st__law_scoop) (defBody st__law_scoop) (defScope st__law_scoop) .none kV14 dc14 pm14 an14 cd14 ct14), sl14⟩)
    (c14 : PySem.W.codeIn K cd14 "_law_scoop" = true)
    (k14 : PySem.W.keepIn K (.ref f14) = true)
    (a15 : PySem.W.nsIn K mainGlobals "_law_taken" = some (some (.ref f15)))
    (l15 : K.lookup f15 = some ⟨oc15, od15, .func (PySem.W.fnOf "_law_taken" "_law_taken" (defArgs st__law_taken) (defBody st__law_taken) (defScope st__law_taken) .none kV15 dc15 pm15 an15 cd15 ct15), sl15⟩)
    (c15 : PySem.W.codeIn K cd15 "_law_taken" = true)
    (k15 : PySem.W.keepIn K (.ref f15) = true)
    (a16 : PySem.W.nsIn K mainGlobals "_law_reached" = some (some (.ref f16)))
    (l16 : K.lookup f16 = some ⟨oc16, od16, .func (PySem.W.fnOf "_law_reached" "_law_reached" (defArgs st__law_reached) (defBody st__law_reached) (defScope st__law_reached) .none kV16 dc16 pm16 an16 cd16 ct16), sl16⟩)
    (c16 : PySem.W.codeIn K cd16 "_law_reached" = true)
    (k16 : PySem.W.keepIn K (.ref f16) = true)
    (a17 : PySem.W.nsIn K mainGlobals "_law_parts" = some (some (.ref f17)))
    (l17 : K.lookup f17 = some ⟨oc17, od17, .func (PySem.W.fnOf "_law_parts" "_law_parts" (defArgs st__law_parts) (defBody st__law_parts) (defScope st__law_parts) .none kV17 dc17 pm17 an17 cd17 ct17), sl17⟩)
    (c17 : PySem.W.codeIn K cd17 "_law_parts" = true)
    (k17 : PySem.W.keepIn K (.ref f17) = true)
    (a18 : PySem.W.nsIn K mainGlobals "_law_hangs" = some (some (.ref f18)))
    (l18 : K.lookup f18 = some ⟨oc18, od18, .func (PySem.W.fnOf "_law_hangs" "_law_hangs" (defArgs st__law_hangs) (defBody st__law_hangs) (defScope st__law_hangs) .none kV18 dc18 pm18 an18 cd18 ct18), sl18⟩)
    (c18 : PySem.W.codeIn K cd18 "_law_hangs" = true)
    (k18 : PySem.W.keepIn K (.ref f18) = true)
    (a19 : PySem.W.nsIn K mainGlobals "_law_cut" = some (some (.ref f19)))
    (l19 : K.lookup f19 = some ⟨oc19, od19, .func (PySem.W.fnOf "_law_cut" "_law_cut" (defArgs st__law_cut) (defBody st__law_cut) (defScope st__law_cut) .none kV19 dc19 pm19 an19 cd19 ct19), sl19⟩)
    (c19 : PySem.W.codeIn K cd19 "_law_cut" = true)
    (k19 : PySem.W.keepIn K (.ref f19) = true)
    (a20 : PySem.W.nsIn K mainGlobals "_law_drawn_table" = some (some (.ref f20)))
    (l20 : K.lookup f20 = some ⟨oc20, od20, .func (PySem.W.fnOf "_law_drawn_table" "_law_drawn_table" (defArgs st__law_drawn_table) (defBody st__law_drawn_table) (defScope st__law_drawn_table) .none kV20 dc20 pm20 an20 cd20 ct20), sl20⟩)
    (c20 : PySem.W.codeIn K cd20 "_law_drawn_table" = true)
    (k20 : PySem.W.keepIn K (.ref f20) = true)
    (a21 : PySem.W.nsIn K mainGlobals "_law_hung_table" = some (some (.ref f21)))
    (l21 : K.lookup f21 = some ⟨oc21, od21, .func (PySem.W.fnOf "_law_hung_table" "_law_hung_table" (defArgs st__law_hung_table) (defBody st__law_hung_table) (defScope st__law_hung_table) .none kV21 dc21 pm21 an21 cd21 ct21), sl21⟩)
    (c21 : PySem.W.codeIn K cd21 "_law_hung_table" = true)
    (k21 : PySem.W.keepIn K (.ref f21) = true)
    (a22 : PySem.W.nsIn K mainGlobals "_law_moved_table" = some (some (.ref f22)))
    (l22 : K.lookup f22 = some ⟨oc22, od22, .func (PySem.W.fnOf "_law_moved_table" "_law_moved_table" (defArgs st__law_moved_table) (defBody st__law_moved_table) (defScope st__law_moved_table) .none kV22 dc22 pm22 an22 cd22 ct22), sl22⟩)
    (c22 : PySem.W.codeIn K cd22 "_law_moved_table" = true)
    (k22 : PySem.W.keepIn K (.ref f22) = true)
    (a23 : PySem.W.nsIn K mainGlobals "_law_beside" = some (some (.ref f23)))
    (l23 : K.lookup f23 = some ⟨oc23, od23, .func (PySem.W.fnOf "_law_beside" "_law_beside" (defArgs st__law_beside) (defBody st__law_beside) (defScope st__law_beside) .none kV23 dc23 pm23 an23 cd23 ct23), sl23⟩)
    (c23 : PySem.W.codeIn K cd23 "_law_beside" = true)
    (k23 : PySem.W.keepIn K (.ref f23) = true)
    (a24 : PySem.W.nsIn K mainGlobals "_law_shared" = some (some (.ref f24)))
    (l24 : K.lookup f24 = some ⟨oc24, od24, .func (PySem.W.fnOf "_law_shared" "_law_shared" (defArgs st__law_shared) (defBody st__law_shared) (defScope st__law_shared) .none kV24 dc24 pm24 an24 cd24 ct24), sl24⟩)
    (c24 : PySem.W.codeIn K cd24 "_law_shared" = true)
    (k24 : PySem.W.keepIn K (.ref f24) = true)
    (a25 : PySem.W.nsIn K mainGlobals "_law_own_beat" = some (some (.ref f25)))
    (l25 : K.lookup f25 = some ⟨oc25, od25, .func (PySem.W.fnOf "_law_own_beat" "_law_own_beat" (defArgs st__law_own_beat) (defBody st__law_own_beat) (defScope st__law_own_beat) .none kV25 dc25 pm25 an25 cd25 ct25), sl25⟩)
    (c25 : PySem.W.codeIn K cd25 "_law_own_beat" = true)
    (k25 : PySem.W.keepIn K (.ref f25) = true)
    (a26 : PySem.W.nsIn K mainGlobals "_law_beating_table" = some (some (.ref f26)))
    (l26 : K.lookup f26 = some ⟨oc26, od26, .func (PySem.W.fnOf "_law_beating_table" "_law_beating_table" (defArgs st__law_beating_table) (defBody st__law_beating_table) (defScope st__law_beating_table) .none kV26 dc26 pm26 an26 cd26 ct26), sl26⟩)
    (c26 : PySem.W.codeIn K cd26 "_law_beating_table" = true)
    (k26 : PySem.W.keepIn K (.ref f26) = true)
    (a27 : PySem.W.nsIn K mainGlobals "_law_told" = some (some (.ref f27)))
    (l27 : K.lookup f27 = some ⟨oc27, od27, .func (PySem.W.fnOf "_law_told" "_law_told" (defArgs st__law_told) (defBody st__law_told) (defScope st__law_told) .none kV27 dc27 pm27 an27 cd27 ct27), sl27⟩)
    (c27 : PySem.W.codeIn K cd27 "_law_told" = true)
    (k27 : PySem.W.keepIn K (.ref f27) = true)
    (a28 : PySem.W.nsIn K mainGlobals "_law_is_told" = some (some (.ref f28)))
    (l28 : K.lookup f28 = some ⟨oc28, od28, .func (PySem.W.fnOf "_law_is_told" "_law_is_told" (defArgs st__law_is_told) (defBody st__law_is_told) (defScope st__law_is_told) .none kV28 dc28 pm28 an28 cd28 ct28), sl28⟩)
    (c28 : PySem.W.codeIn K cd28 "_law_is_told" = true)
    (k28 : PySem.W.keepIn K (.ref f28) = true)
    (a29 : PySem.W.nsIn K mainGlobals "_law_right" = some (some (.ref f29)))
    (l29 : K.lookup f29 = some ⟨oc29, od29, .func (PySem.W.fnOf "_law_right" "_law_right" (defArgs st__law_right) (defBody st__law_right) (defScope st__law_right) .none kV29 dc29 pm29 an29 cd29 ct29), sl29⟩)
    (c29 : PySem.W.codeIn K cd29 "_law_right" = true)
    (k29 : PySem.W.keepIn K (.ref f29) = true)
    (a30 : PySem.W.nsIn K mainGlobals "law" = some (some (.ref f30)))
    (l30 : K.lookup f30 = some ⟨oc30, od30, .func (PySem.W.fnOf "law" "law" (defArgs st_law) (defBody st_law) (defScope st_law) .none kV30 dc30 pm30 an30 cd30 ct30), sl30⟩)
    (c30 : PySem.W.codeIn K cd30 "law" = true)
    (k30 : PySem.W.keepIn K (.ref f30) = true)
    (q_MAX_PASSED : PySem.W.nsIn K mainGlobals "MAX_PASSED" = some (some (.int 999999999999999999999999999999999999999999999999999999999999 t_MAX_PASSED)))
    (q_MAX_TIES : PySem.W.nsIn K mainGlobals "MAX_TIES" = some (some (.int 24 t_MAX_TIES)))
    (z_abs : PySem.W.nsIn K mainGlobals "abs" = some none)
    (z_all : PySem.W.nsIn K mainGlobals "all" = some none)
    (z_bool : PySem.W.nsIn K mainGlobals "bool" = some none)
    (z_enumerate : PySem.W.nsIn K mainGlobals "enumerate" = some none)
    (z_int : PySem.W.nsIn K mainGlobals "int" = some none)
    (z_isinstance : PySem.W.nsIn K mainGlobals "isinstance" = some none)
    (z_len : PySem.W.nsIn K mainGlobals "len" = some none)
    (z_list : PySem.W.nsIn K mainGlobals "list" = some none)
    (z_max : PySem.W.nsIn K mainGlobals "max" = some none)
    (z_min : PySem.W.nsIn K mainGlobals "min" = some none)
    (z_range : PySem.W.nsIn K mainGlobals "range" = some none)
    (z_sorted : PySem.W.nsIn K mainGlobals "sorted" = some none)
    (z_sum : PySem.W.nsIn K mainGlobals "sum" = some none)
    (z_tuple : PySem.W.nsIn K mainGlobals "tuple" = some none)
    (z_zip : PySem.W.nsIn K mainGlobals "zip" = some none)
    (y_gcd : PySem.W.nsIn K mainGlobals "gcd" = some (some (.builtin "math.gcd")))
    (hT : ∃ lo mean mb, PyProof.Rows.Top q lo mean mg mb h)
    (hr__law_is_told : ((PyProof.Rows.recsOf q).any fun e => e.name == "_law_is_told") = true)
    (hr_law : ((PyProof.Rows.recsOf q).any fun e => e.name == "law") = true)
    (hn : l.most = some 63)
    (pd : Nat.beq ((PySem.W.tabIn K "_law_is_told").getD (0, 0)).2 ((PySem.W.tabIn K "law").getD (0, 0)).2 = false)
    : LamX.LawAtS l w K CX0 11 63 "script" mg fa h := by
  obtain ⟨lo, mean, mb, hT⟩ := hT
  obtain ⟨⟨c__law_is_told, P__law_is_told⟩, eb__law_is_told⟩ := Option.isSome_iff_exists.mp tb__law_is_told
  rw [eb__law_is_told] at tn__law_is_told pd
  replace tn__law_is_told : K.lookup P__law_is_told = none := Option.isNone_iff_eq_none.mp tn__law_is_told
  replace tb__law_is_told := eb__law_is_told
  obtain ⟨⟨c_law, P_law⟩, eb_law⟩ := Option.isSome_iff_exists.mp tb_law
  rw [eb_law] at tn_law pd
  replace tn_law : K.lookup P_law = none := Option.isNone_iff_eq_none.mp tn_law
  replace tb_law := eb_law
  replace pd : P__law_is_told ≠ P_law := fun z => by
    have q : Nat.beq P__law_is_told P_law = false := pd
    rw [z, Nat.beq_refl] at q
    cases q
  have e := hfa.symm.trans (PySem.W.mg_of X G a30)
  cases e
  have eC_Refused : cA mg "Refused" = C_Refused := by
    unfold cA
    rw [PySem.W.mg_of X G xa_Refused]
  subst eC_Refused
  have F1 := fun_mk (st := st_is_integer) l1 c1 k1
  have b1 := F1.binds (ps := ["value"]) fun _ _ _ _ _ _ us hl => match us, hl with | [_], _ => rfl
  have F2 := fun_mk (st := st_is_within) l2 c2 k2
  have b2 := F2.binds (ps := ["value", "least", "most"]) fun _ _ _ _ _ _ us hl => match us, hl with | [_, _, _], _ => rfl
  have F3 := fun_mk (st := st_is_passed) l3 c3 k3
  have b3 := F3.binds (ps := ["value"]) fun _ _ _ _ _ _ us hl => match us, hl with | [_], _ => rfl
  have F4 := fun_mk (st := st_is_count_table) l4 c4 k4
  have b4 := F4.binds (ps := ["value"]) fun _ _ _ _ _ _ us hl => match us, hl with | [_], _ => rfl
  have F5 := fun_mk (st := st_check_count_table) l5 c5 k5
  have b5 := F5.binds (ps := ["table"]) fun _ _ _ _ _ _ us hl => match us, hl with | [_], _ => rfl
  have F6 := fun_mk (st := st_check_together) l6 c6 k6
  have b6 := F6.binds (ps := ["table"]) fun _ _ _ _ _ _ us hl => match us, hl with | [_], _ => rfl
  have F7 := fun_mk (st := st_reached_from) l7 c7 k7
  have b7 := F7.binds (ps := ["table", "place"]) fun _ _ _ _ _ _ us hl => match us, hl with | [_, _], _ => rfl
  have F8 := fun_mk (st := st_does_hang) l8 c8 k8
  have b8 := F8.binds (ps := ["table"]) fun _ _ _ _ _ _ us hl => match us, hl with | [_], _ => rfl
  have F9 := fun_mk (st := st_hangs_together) l9 c9 k9
  have b9 := F9.binds (ps := ["table"]) fun _ _ _ _ _ _ us hl => match us, hl with | [_], _ => rfl
  have F10 := fun_mk (st := st_pieces_of) l10 c10 k10
  have b10 := F10.binds (ps := ["table"]) fun _ _ _ _ _ _ us hl => match us, hl with | [_], _ => rfl
  have F11 := fun_mk (st := st_steps_from) l11 c11 k11
  have b11 := F11.binds (ps := ["table"]) fun _ _ _ _ _ _ us hl => match us, hl with | [_], _ => rfl
  have F12 := fun_mk (st := st_beat) l12 c12 k12
  have b12 := F12.binds (ps := ["table"]) fun _ _ _ _ _ _ us hl => match us, hl with | [_], _ => rfl
  have F13 := fun_mk (st := st__law_basin) l13 c13 k13
  have b13 := F13.binds (ps := ["script", "spot"]) fun _ _ _ _ _ _ us hl => match us, hl with | [_, _], _ => rfl
  have F14 := fun_mk (st := st__law_scoop) l14 c14 k14
  have b14 := F14.binds (ps := ["basin", "many"]) fun _ _ _ _ _ _ us hl => match us, hl with | [_, _], _ => rfl
  have F15 := fun_mk (st := st__law_taken) l15 c15 k15
  have b15 := F15.binds (ps := ["basin", "items"]) fun _ _ _ _ _ _ us hl => match us, hl with | [_, _], _ => rfl
  have F16 := fun_mk (st := st__law_reached) l16 c16 k16
  have b16 := F16.binds (ps := ["table"]) fun _ _ _ _ _ _ us hl => match us, hl with | [_], _ => rfl
  have F17 := fun_mk (st := st__law_parts) l17 c17 k17
  have b17 := F17.binds (ps := ["table"]) fun _ _ _ _ _ _ us hl => match us, hl with | [_], _ => rfl
  have F18 := fun_mk (st := st__law_hangs) l18 c18 k18
  have b18 := F18.binds (ps := ["table"]) fun _ _ _ _ _ _ us hl => match us, hl with | [_], _ => rfl
  have F19 := fun_mk (st := st__law_cut) l19 c19 k19
  have b19 := F19.binds (ps := ["table", "places"]) fun _ _ _ _ _ _ us hl => match us, hl with | [_, _], _ => rfl
  have F20 := fun_mk (st := st__law_drawn_table) l20 c20 k20
  have b20 := F20.binds (ps := ["basin", "size", "most"]) fun _ _ _ _ _ _ us hl => match us, hl with | [_, _, _], _ => rfl
  have F21 := fun_mk (st := st__law_hung_table) l21 c21 k21
  have b21 := F21.binds (ps := ["basin", "size", "most"]) fun _ _ _ _ _ _ us hl => match us, hl with | [_, _, _], _ => rfl
  have F22 := fun_mk (st := st__law_moved_table) l22 c22 k22
  have b22 := F22.binds (ps := ["basin", "table"]) fun _ _ _ _ _ _ us hl => match us, hl with | [_, _], _ => rfl
  have F23 := fun_mk (st := st__law_beside) l23 c23 k23
  have b23 := F23.binds (ps := ["one", "other", "link"]) fun _ _ _ _ _ _ us hl => match us, hl with | [_, _, _], _ => rfl
  have F24 := fun_mk (st := st__law_shared) l24 c24 k24
  have b24 := F24.binds (ps := ["one", "other"]) fun _ _ _ _ _ _ us hl => match us, hl with | [_, _], _ => rfl
  have F25 := fun_mk (st := st__law_own_beat) l25 c25 k25
  have b25 := F25.binds (ps := ["table"]) fun _ _ _ _ _ _ us hl => match us, hl with | [_], _ => rfl
  have F26 := fun_mk (st := st__law_beating_table) l26 c26 k26
  have b26 := F26.binds (ps := ["basin", "many"]) fun _ _ _ _ _ _ us hl => match us, hl with | [_, _], _ => rfl
  have F27 := fun_mk (st := st__law_told) l27 c27 k27
  have b27 := F27.binds (ps := ["call"]) fun _ _ _ _ _ _ us hl => match us, hl with | [_], _ => rfl
  have F28 := fun_mk (st := st__law_is_told) l28 c28 k28
  have b28 := F28.binds (ps := ["table"]) fun _ _ _ _ _ _ us hl => match us, hl with | [_], _ => rfl
  have F29 := fun_mk (st := st__law_right) l29 c29 k29
  have b29 := F29.binds (ps := ["basin"]) fun _ _ _ _ _ _ us hl => match us, hl with | [_], _ => rfl
  have T : Txt K mg := ⟨⟨_, _, F1, PySem.W.mg_of X G a1, b1⟩,
    ⟨_, _, F2, PySem.W.mg_of X G a2, b2⟩,
    ⟨_, _, F3, PySem.W.mg_of X G a3, b3⟩,
    ⟨_, _, F4, PySem.W.mg_of X G a4, b4⟩,
    ⟨_, _, F5, PySem.W.mg_of X G a5, b5⟩,
    ⟨_, _, F6, PySem.W.mg_of X G a6, b6⟩,
    ⟨_, _, F7, PySem.W.mg_of X G a7, b7⟩,
    ⟨_, _, F8, PySem.W.mg_of X G a8, b8⟩,
    ⟨_, _, F9, PySem.W.mg_of X G a9, b9⟩,
    ⟨_, _, F10, PySem.W.mg_of X G a10, b10⟩,
    ⟨_, _, F11, PySem.W.mg_of X G a11, b11⟩,
    ⟨_, _, F12, PySem.W.mg_of X G a12, b12⟩,
    ⟨_, _, F13, PySem.W.mg_of X G a13, b13⟩,
    ⟨_, _, F14, PySem.W.mg_of X G a14, b14⟩,
    ⟨_, _, F15, PySem.W.mg_of X G a15, b15⟩,
    ⟨_, _, F16, PySem.W.mg_of X G a16, b16⟩,
    ⟨_, _, F17, PySem.W.mg_of X G a17, b17⟩,
    ⟨_, _, F18, PySem.W.mg_of X G a18, b18⟩,
    ⟨_, _, F19, PySem.W.mg_of X G a19, b19⟩,
    ⟨_, _, F20, PySem.W.mg_of X G a20, b20⟩,
    ⟨_, _, F21, PySem.W.mg_of X G a21, b21⟩,
    ⟨_, _, F22, PySem.W.mg_of X G a22, b22⟩,
    ⟨_, _, F23, PySem.W.mg_of X G a23, b23⟩,
    ⟨_, _, F24, PySem.W.mg_of X G a24, b24⟩,
    ⟨_, _, F25, PySem.W.mg_of X G a25, b25⟩,
    ⟨_, _, F26, PySem.W.mg_of X G a26, b26⟩,
    ⟨_, _, F27, PySem.W.mg_of X G a27, b27⟩,
    ⟨_, _, F28, PySem.W.mg_of X G a28, b28⟩,
    ⟨_, _, F29, PySem.W.mg_of X G a29, b29⟩,
    ⟨_, _, _, _, ⟨PySem.One.over_ArithmeticError, PySem.W.mg_of X G xa_Refused, ⟨_, _, _, _, _, _, _, _, _, _, _, _, _, _, xl_Refused⟩, xs_Refused, xg_Refused, xh_Refused, xn_Refused, xi_Refused, xt_Refused, xk_Refused, xe_Refused, xy_Refused, xd_Refused, ⟨_, _, _, _, _, _, _, _, _, _, _, _, _, _, _, xf_Refused, xc_Refused⟩⟩⟩,
    ⟨_, PySem.W.mg_of X G q_MAX_PASSED⟩,
    ⟨_, PySem.W.mg_of X G q_MAX_TIES⟩,
    PySem.W.mg_none_of X G z_abs,
    PySem.W.mg_none_of X G z_all,
    PySem.W.mg_none_of X G z_bool,
    PySem.W.mg_none_of X G z_enumerate,
    PySem.W.mg_none_of X G z_int,
    PySem.W.mg_none_of X G z_isinstance,
    PySem.W.mg_none_of X G z_len,
    PySem.W.mg_none_of X G z_list,
    PySem.W.mg_none_of X G z_max,
    PySem.W.mg_none_of X G z_min,
    PySem.W.mg_none_of X G z_range,
    PySem.W.mg_none_of X G z_sorted,
    PySem.W.mg_none_of X G z_sum,
    PySem.W.mg_none_of X G z_tuple,
    PySem.W.mg_none_of X G z_zip,
    PySem.W.mg_of X G y_gcd⟩
  have t1 := tab_top hT X hr__law_is_told tb__law_is_told
  have t0 := tab_top hT X hr_law tb_law
  have Fl := fun_mk (st := st_law) l30 c30 k30
  exact ⟨PySem.W.fnOf "law" "law" (defArgs st_law) (defBody st_law) (defScope st_law) .none kV30 dc30 pm30 an30 cd30 ct30, [(c__law_is_told, P__law_is_told), (c_law, P_law)], spLaw K [(P__law_is_told, lamQ "_law_is_told"), (P_law, lamQL)], List.forall_mem_cons.mpr ⟨t1.2, List.forall_mem_cons.mpr ⟨t0.2, fun _ h => nomatch h⟩⟩, List.forall_mem_cons.mpr ⟨tn__law_is_told, List.forall_mem_cons.mpr ⟨tn_law, fun _ h => nomatch h⟩⟩, List.forall_mem_cons.mpr ⟨t1.1, List.forall_mem_cons.mpr ⟨t0.1, fun _ h => nomatch h⟩⟩, fun s v => .of_eq rfl, fun H a ns hl _ hH hS => ⟨a, ns, rfl, hS, hl, tabs_two (hH _ List.mem_cons_self) (hH _ (List.mem_cons_of_mem _ List.mem_cons_self)), fun _ => rfl⟩, fun base _ _ hB => ok_law Fl T ⟨_, _, _, _, F28, PySem.W.mg_of X G a28, b28, lamT_two (hB _ List.mem_cons_self) (code_top X G F28 (PySem.W.mg_of X G a28) tb__law_is_told) pd⟩ (lamT_two' (hB _ (List.mem_cons_of_mem _ List.mem_cons_self)) (code_top X G Fl (PySem.W.mg_of X G a30) tb_law) pd)⟩
end Pr

open PySem PySem.W PyProof.Rows in
set_option maxRecDepth 100000 in
set_option maxHeartbeats 0 in
theorem PySem.Challenge.cw_noroadback_k35_whole_pieces_and_beats_of_holds : PySem.Challenge.rw_noroadback_k35_whole_pieces_and_beats_of.Holds := by
  w_on; o_law; k_head; (case hw => w_witness2)
  k_fill
  refine N0.walk_ofTop (n := 63) (k := 11) (x := "script") (CX := fun _ => L2.CX0) (l := PySem.Challenge.rw_noroadback_k35_whole_pieces_and_beats_of) rfl (by decide) rfl ⟨rfl, by decide, by decide⟩ (fun w h Y => PySem.W.km_in_of Y) ?F (fun _ _ _ _ _ z => z)
  case F =>
    intro w mg fa h KX G hmg hT
    refine' Pr.all_mk (P := PySem.Challenge.rw_noroadback_k35_whole_pieces_and_beats_of.prog) KX G hmg ?xa_Refused ?xl_Refused ?xs_Refused ?xg_Refused ?xh_Refused ?xn_Refused ?xi_Refused ?xt_Refused ?xk_Refused ?xe_Refused ?xy_Refused ?xd_Refused ?xf_Refused ?xc_Refused ?tb__law_is_told ?tn__law_is_told ?tb_law ?tn_law ?a1 ?l1 ?c1 ?k1 ?a2 ?l2 ?c2 ?k2 ?a3 ?l3 ?c3 ?k3 ?a4 ?l4 ?c4 ?k4 ?a5 ?l5 ?c5 ?k5 ?a6 ?l6 ?c6 ?k6 ?a7 ?l7 ?c7 ?k7 ?a8 ?l8 ?c8 ?k8 ?a9 ?l9 ?c9 ?k9 ?a10 ?l10 ?c10 ?k10 ?a11 ?l11 ?c11 ?k11 ?a12 ?l12 ?c12 ?k12 ?a13 ?l13 ?c13 ?k13 ?a14 ?l14 ?c14 ?k14 ?a15 ?l15 ?c15 ?k15 ?a16 ?l16 ?c16 ?k16 ?a17 ?l17 ?c17 ?k17 ?a18 ?l18 ?c18 ?k18 ?a19 ?l19 ?c19 ?k19 ?a20 ?l20 ?c20 ?k20 ?a21 ?l21 ?c21 ?k21 ?a22 ?l22 ?c22 ?k22 ?a23 ?l23 ?c23 ?k23 ?a24 ?l24 ?c24 ?k24 ?a25 ?l25 ?c25 ?k25 ?a26 ?l26 ?c26 ?k26 ?a27 ?l27 ?c27 ?k27 ?a28 ?l28 ?c28 ?k28 ?a29 ?l29 ?c29 ?k29 ?a30 ?l30 ?c30 ?k30 ?q_MAX_PASSED ?q_MAX_TIES ?z_abs ?z_all ?z_bool ?z_enumerate ?z_int ?z_isinstance ?z_len ?z_list ?z_max ?z_min ?z_range ?z_sorted ?z_sum ?z_tuple ?z_zip ?y_gcd hT ?hr__law_is_told ?hr_law rfl ?pd
    (case hr__law_is_told => decide +kernel)
    (case hr_law => decide +kernel)
    (case xa_Refused => k_is)
    (case xl_Refused => k_is)
    (case xs_Refused => k_is)
    (case xg_Refused => k_is)
    (case xh_Refused => k_is)
    (case xn_Refused => k_is)
    (case xi_Refused => k_is)
    (case xt_Refused => k_is)
    (case xk_Refused => k_is)
    (case xe_Refused => k_is)
    (case xy_Refused => k_is)
    (case xd_Refused => k_is)
    (case xf_Refused => k_is)
    (case xc_Refused => k_is)
    (case tb__law_is_told => kernel_rfl)
    (case tn__law_is_told => kernel_rfl)
    (case tb_law => kernel_rfl)
    (case tn_law => kernel_rfl)
    (case a1 => k_is)
    (case l1 => k_is)
    (case c1 => k_is)
    (case k1 => k_is)
    (case a2 => k_is)
    (case l2 => k_is)
    (case c2 => k_is)
    (case k2 => k_is)
    (case a3 => k_is)
    (case l3 => k_is)
    (case c3 => k_is)
    (case k3 => k_is)
    (case a4 => k_is)
    (case l4 => k_is)
    (case c4 => k_is)
    (case k4 => k_is)
    (case a5 => k_is)
    (case l5 => k_is)
    (case c5 => k_is)
    (case k5 => k_is)
    (case a6 => k_is)
    (case l6 => k_is)
    (case c6 => k_is)
    (case k6 => k_is)
    (case a7 => k_is)
    (case l7 => k_is)
    (case c7 => k_is)
    (case k7 => k_is)
    (case a8 => k_is)
    (case l8 => k_is)
    (case c8 => k_is)
    (case k8 => k_is)
    (case a9 => k_is)
    (case l9 => k_is)
    (case c9 => k_is)
    (case k9 => k_is)
    (case a10 => k_is)
    (case l10 => k_is)
    (case c10 => k_is)
    (case k10 => k_is)
    (case a11 => k_is)
    (case l11 => k_is)
    (case c11 => k_is)
    (case k11 => k_is)
    (case a12 => k_is)
    (case l12 => k_is)
    (case c12 => k_is)
    (case k12 => k_is)
    (case a13 => k_is)
    (case l13 => k_is)
    (case c13 => k_is)
    (case k13 => k_is)
    (case a14 => k_is)
    (case l14 => k_is)
    (case c14 => k_is)
    (case k14 => k_is)
    (case a15 => k_is)
    (case l15 => k_is)
    (case c15 => k_is)
    (case k15 => k_is)
    (case a16 => k_is)
    (case l16 => k_is)
    (case c16 => k_is)
    (case k16 => k_is)
    (case a17 => k_is)
    (case l17 => k_is)
    (case c17 => k_is)
    (case k17 => k_is)
    (case a18 => k_is)
    (case l18 => k_is)
    (case c18 => k_is)
    (case k18 => k_is)
    (case a19 => k_is)
    (case l19 => k_is)
    (case c19 => k_is)
    (case k19 => k_is)
    (case a20 => k_is)
    (case l20 => k_is)
    (case c20 => k_is)
    (case k20 => k_is)
    (case a21 => k_is)
    (case l21 => k_is)
    (case c21 => k_is)
    (case k21 => k_is)
    (case a22 => k_is)
    (case l22 => k_is)
    (case c22 => k_is)
    (case k22 => k_is)
    (case a23 => k_is)
    (case l23 => k_is)
    (case c23 => k_is)
    (case k23 => k_is)
    (case a24 => k_is)
    (case l24 => k_is)
    (case c24 => k_is)
    (case k24 => k_is)
    (case a25 => k_is)
    (case l25 => k_is)
    (case c25 => k_is)
    (case k25 => k_is)
    (case a26 => k_is)
    (case l26 => k_is)
    (case c26 => k_is)
    (case k26 => k_is)
    (case a27 => k_is)
    (case l27 => k_is)
    (case c27 => k_is)
    (case k27 => k_is)
    (case a28 => k_is)
    (case l28 => k_is)
    (case c28 => k_is)
    (case k28 => k_is)
    (case a29 => k_is)
    (case l29 => k_is)
    (case c29 => k_is)
    (case k29 => k_is)
    (case a30 => k_is)
    (case l30 => k_is)
    (case c30 => k_is)
    (case k30 => k_is)
    (case q_MAX_PASSED => k_is)
    (case q_MAX_TIES => k_is)
    (case z_abs => k_is)
    (case z_all => k_is)
    (case z_bool => k_is)
    (case z_enumerate => k_is)
    (case z_int => k_is)
    (case z_isinstance => k_is)
    (case z_len => k_is)
    (case z_list => k_is)
    (case z_max => k_is)
    (case z_min => k_is)
    (case z_range => k_is)
    (case z_sorted => k_is)
    (case z_sum => k_is)
    (case z_tuple => k_is)
    (case z_zip => k_is)
    (case y_gcd => k_is)
    (case pd => kernel_rfl)
