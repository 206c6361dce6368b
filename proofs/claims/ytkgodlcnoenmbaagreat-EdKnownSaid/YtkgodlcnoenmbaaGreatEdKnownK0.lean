/-
  A part of what the proof of EdKnown rests on: plain lemmas and contracts of the functions that it calls. No conditions but what each theorem states.
-/
namespace Go.Proofs.YtkgodlcnoenmbaaGreat
set_option linter.unusedVariables false
set_option maxRecDepth 100000
namespace Pm
def Pr (p:Nat):Prop:=2≤p∧∀ d,d ∣ p→d=1∨d=p
theorem has_pr:∀ n,2≤n→∃ q,Pr q∧q ∣ n:=by
 intro n
 induction n using Nat.strongRecOn with
 | ind n ih =>
  intro h
  by_cases hp:Pr n
  ·exact ⟨n,hp,Nat.dvd_refl n⟩
  ·obtain ⟨d,hd,h1,h2⟩:∃ d,d ∣ n∧d≠1∧d≠n:=by
    apply Classical.byContradiction
    intro hno
    refine hp ⟨h,fun d hd=>?_⟩
    apply Classical.byContradiction
    intro h2
    exact hno ⟨d,hd,fun e=>h2 (.inl e),fun e=>h2 (.inr e)⟩
   have hdn:=Nat.le_of_dvd (by omega) hd
   have hd0:d≠0:=by rintro rfl;have:=Nat.eq_zero_of_zero_dvd hd;omega
   obtain ⟨q,hq,hqd⟩:=ih d (by omega) (by omega)
   exact ⟨q,hq,Nat.dvd_trans hqd hd⟩
theorem small_pr {n:Nat} (h:2≤n) (hn:¬ Pr n):∃ q,Pr q∧q ∣ n∧q*q≤n:=by
 obtain ⟨d,hd,h1,h2⟩:∃ d,d ∣ n∧d≠1∧d≠n:=by
  apply Classical.byContradiction
  intro hno
  refine hn ⟨h,fun d hd=>?_⟩
  apply Classical.byContradiction
  intro h2
  exact hno ⟨d,hd,fun e=>h2 (.inl e),fun e=>h2 (.inr e)⟩
 obtain ⟨e,rfl⟩:=hd
 have hd0:d≠0:=by rintro rfl;omega
 have he0:e≠0:=by rintro rfl;omega
 have he1:e≠1:=by rintro rfl;omega
 rcases Nat.le_total d e with g | g
 ·obtain ⟨q,hq,hqd⟩:=has_pr d (by omega)
  refine ⟨q,hq,Nat.dvd_trans hqd ⟨e,rfl⟩,?_⟩
  have:=Nat.le_of_dvd (by omega) hqd
  exact Nat.le_trans (Nat.mul_le_mul this this) (Nat.mul_le_mul_left d g)
 ·obtain ⟨q,hq,hqd⟩:=has_pr e (by omega)
  refine ⟨q,hq,Nat.dvd_trans hqd ⟨d,Nat.mul_comm d e⟩,?_⟩
  have:=Nat.le_of_dvd (by omega) hqd
  exact Nat.le_trans (Nat.mul_le_mul this this) (Nat.mul_le_mul_right e g)
theorem coprime_of {p a:Nat} (hp:Pr p) (h:¬ p ∣ a):Nat.Coprime p a:=by
 rcases hp.2 _ (Nat.gcd_dvd_left p a) with g | g
 ·exact g
 ·exact absurd (g ▸ Nat.gcd_dvd_right p a) h
theorem euclid {p a b:Nat} (hp:Pr p) (h:p ∣ a*b):p ∣ a∨p ∣ b:=by
 by_cases ha:p ∣ a
 ·exact .inl ha
 ·exact .inr ((coprime_of hp ha).dvd_of_dvd_mul_left h)
def bin:Nat→Nat→Nat
 | _,0=>1
 | 0,_+1=>0
 | n+1,k+1=>bin n k+bin n (k+1)
theorem bin_over:∀ n k,n<k→bin n k=0
 | 0,0,h=>by omega
 | 0,_+1,_=>rfl
 | n+1,0,h=>by omega
 | n+1,k+1,h=>by rw [bin,bin_over n k (by omega),bin_over n (k+1) (by omega)]
theorem bin_self:∀ n,bin n n=1
 | 0=>rfl
 | n+1=>by rw [bin,bin_self n,bin_over n (n+1) (by omega)]
theorem bin_mul:∀ n k,(k+1)*bin (n+1) (k+1)=(n+1)*bin n k
 | 0,0=>by simp [bin]
 | 0,k+1=>by simp [bin]
 | n+1,0=>by
  have h:=bin_mul n 0
  have e:bin (n+1+1) (0+1)=bin (n+1) 0+bin (n+1) (0+1):=rfl
  have e0:bin n 0=1:=by cases n <;> rfl
  have e1:bin (n+1) 0=1:=rfl
  rw [e0] at h
  rw [e,e1]
  omega
 | n+1,k+1=>by
  have h1:=bin_mul n k
  have h2:=bin_mul n (k+1)
  have e1:bin (n+1+1) (k+1+1)=bin (n+1) (k+1)+bin (n+1) (k+1+1):=rfl
  have e2:bin (n+1) (k+1)=bin n k+bin n (k+1):=rfl
  rw [e1]
  generalize bin (n+1) (k+1+1)=x at *
  generalize bin n k=y at *
  generalize bin n (k+1)=z at *
  rw [e2] at h1 ⊢
  grind
def bs (n a:Nat):Nat→Nat
 | 0=>0
 | m+1=>bs n a m+bin n m*a^m
theorem bs_step (n a:Nat):∀ m,bs (n+1) a (m+1)=a*bs n a m+bs n a (m+1)
 | 0=>by simp [bs,bin]
 | m+1=>by
  have h:=bs_step n a m
  have e1:bs (n+1) a (m+1+1)=bs (n+1) a (m+1)+bin (n+1) (m+1)*a^(m+1):=rfl
  have e2:bs n a (m+1+1)=bs n a (m+1)+bin n (m+1)*a^(m+1):=rfl
  have e3:bs n a (m+1)=bs n a m+bin n m*a^m:=rfl
  have e4:bin (n+1) (m+1)=bin n m+bin n (m+1):=rfl
  rw [e1,e2,h,e4,Nat.pow_succ]
  rw [e3]
  grind
theorem bs_pow (a:Nat):∀ n,bs n a (n+1)=(a+1)^n
 | 0=>by simp [bs,bin]
 | n+1=>by
  have h:=bs_pow a n
  rw [bs_step,show bs n a (n+1+1)=bs n a (n+1)+bin n (n+1)*a^(n+1) from rfl,bin_over n (n+1) (by omega),h,Nat.pow_succ]
  grind
theorem bs_mod {p:Nat} (hp:Pr p) (a:Nat):∀ m,m<p→bs p a (m+1) % p=1 % p
 | 0,_=>by simp [bs,bin]
 | m+1,h=>by
  have ih:=bs_mod hp a m (by omega)
  rw [show bs p a (m+1+1)=bs p a (m+1)+bin p (m+1)*a^(m+1) from rfl]
  have hd:p ∣ bin p (m+1):=by
   obtain ⟨q,rfl⟩:∃ q,p=q+1:=⟨p-1,by have:=hp.1;omega⟩
   have:=bin_mul q m
   rcases euclid hp (a:=m+1) (b:=bin (q+1) (m+1)) ⟨bin q m,this⟩ with g | g
   ·have:=Nat.le_of_dvd (by omega) g;omega
   ·exact g
  have:p ∣ bin p (m+1)*a^(m+1):=Nat.dvd_trans hd ⟨_,rfl⟩
  obtain ⟨c,hc⟩:=this
  rw [hc,Nat.add_mul_mod_self_left]
  exact ih
theorem fermat {p:Nat} (hp:Pr p):∀ a,a^p % p=a % p
 | 0=>by rw [Nat.zero_pow (by have:=hp.1;omega)]
 | a+1=>by
  have ih:=fermat hp a
  rw [← bs_pow,show bs p a (p+1)=bs p a p+bin p p*a^p from rfl,bin_self,Nat.one_mul]
  have h:=bs_mod hp a (p-1) (by have:=hp.1;omega)
  rw [show p-1+1=p by have:=hp.1;omega] at h
  rw [Nat.add_mod,h,ih,← Nat.add_mod,Nat.add_comm]
theorem fermat_one {p a:Nat} (hp:Pr p) (ha:¬ p ∣ a):a^(p-1) % p=1:=by
 have h:=fermat hp a
 have hp2:=hp.1
 have e:a^p=a*a^(p-1):=by
  have:p=(p-1)+1:=by omega
  rw [this,Nat.pow_succ,Nat.mul_comm]
  simp
 have hle:a≤a*a^(p-1):=Nat.le_mul_of_pos_right a (Nat.pow_pos (by rcases Nat.eq_zero_or_pos a with rfl | g;exact absurd (Nat.dvd_zero p) ha;exact g))
 have hd:p ∣ a*a^(p-1)-a:=by
  rw [← e]
  exact Nat.dvd_of_mod_eq_zero (Nat.sub_mod_eq_zero_of_mod_eq h)
 have hd2:p ∣ a*(a^(p-1)-1):=by rw [Nat.mul_sub,Nat.mul_one];exact hd
 rcases euclid hp hd2 with g | g
 ·exact absurd g ha
 ·obtain ⟨c,hc⟩:=g
  have h1:1≤a^(p-1):=Nat.pow_pos (by rcases Nat.eq_zero_or_pos a with rfl | g;exact absurd (Nat.dvd_zero p) ha;exact g)
  have:a^(p-1)=1+p*c:=by omega
  rw [this,Nat.add_mul_mod_self_left,Nat.mod_eq_of_lt (by omega)]
theorem pow_gcd {r b:Nat} (m n:Nat):b^m % r=1 % r→b^n % r=1 % r→b^Nat.gcd m n % r=1 % r:=by
 induction m,n using Nat.gcd.induction with
 | H0 n=>intro _ h;rw [Nat.gcd_zero_left];exact h
 | H1 m n hm ih =>
  intro h1 h2
  rw [Nat.gcd_rec]
  refine ih ?_ h1
  have e:b^n=(b^m)^(n/m)*b^(n % m):=by
   rw [← Nat.pow_mul,← Nat.pow_add,Nat.div_add_mod]
  have e2:((b^m)^(n/m)) % r=1 % r:=by
   rw [Nat.pow_mod,h1,← Nat.pow_mod,Nat.one_pow]
  rw [e,Nat.mul_mod,e2,← Nat.mul_mod,Nat.one_mul] at h2
  exact h2
theorem order_dvd {r q b:Nat} (hr:Pr r) (hq:Pr q) (hb:¬ r ∣ b) (h1:b^q % r=1 % r) (h2:b % r≠1 % r):q ∣ r-1:=by
 apply Classical.byContradiction
 intro hno
 have hc:=coprime_of hq hno
 have hf:=fermat_one hr hb
 have h:=pow_gcd (r:=r) (b:=b) q (r-1) h1 (by rw [hf,Nat.mod_eq_of_lt hr.1])
 rw [hc,Nat.pow_one] at h
 exact h2 h
theorem step_dvd {n q a r:Nat} (hn:2≤n) (hr:Pr r) (hrn:r ∣ n) (hq:Pr q) (hqn:q ∣ n-1) (h1:a^(n-1) % n=1) (h2:Nat.gcd (a^((n-1)/q) % n+(n-1)) n=1):q ∣ r-1:=by
 have hr2:=hr.1
 have h1r:a^(n-1) % r=1 % r:=by
  have:=congrArg (· % r) h1
  simpa [Nat.mod_mod_of_dvd _ hrn] using this
 have hb:¬ r ∣ a^((n-1)/q):=by
  intro hd
  have:r ∣ a^(n-1):=by
   have e:a^(n-1)=(a^((n-1)/q))^q:=by rw [← Nat.pow_mul,Nat.div_mul_cancel hqn]
   rw [e]
   exact Nat.dvd_trans hd (by
    obtain ⟨k,hk⟩:∃ k,q=k+1:=⟨q-1,by have:=hq.1;omega⟩
    rw [hk,Nat.pow_succ];exact Nat.dvd_mul_left _ _)
  have:=Nat.mod_eq_zero_of_dvd this
  rw [this,Nat.mod_eq_of_lt (by omega)] at h1r
  omega
 refine order_dvd hr hq hb ?_ ?_
 ·rw [← Nat.pow_mul,Nat.div_mul_cancel hqn];exact h1r
 ·intro he
  have hd:r ∣ a^((n-1)/q) % n+(n-1):=by
   apply Nat.dvd_of_mod_eq_zero
   rw [Nat.add_mod,Nat.mod_mod_of_dvd _ hrn,he,← Nat.add_mod]
   obtain ⟨c,rfl⟩:=hrn
   have:1+(r*c-1)=r*c:=by omega
   rw [this,Nat.mul_mod_right]
  have:=Nat.dvd_gcd hd hrn
  rw [h2] at this
  have:=Nat.le_of_dvd (by omega) this
  omega
theorem pock1 {n q a:Nat} (hn:2≤n) (hq:Pr q) (hqn:q ∣ n-1) (h1:a^(n-1) % n=1) (h2:Nat.gcd (a^((n-1)/q) % n+(n-1)) n=1) (hs:n<(q+1)*(q+1)):Pr n:=by
 apply Classical.byContradiction
 intro hno
 obtain ⟨r,hr,hrn,hrr⟩:=small_pr hn hno
 have:=step_dvd hn hr hrn hq hqn h1 h2
 have hr2:=hr.1
 have:=Nat.le_of_dvd (by omega) this
 have:=Nat.mul_le_mul (show q+1≤r by omega) (show q+1≤r by omega)
 omega
theorem pock2 {n q a s b:Nat} (hn:2≤n) (hq:Pr q) (hqn:q ∣ n-1) (h1:a^(n-1) % n=1) (h2:Nat.gcd (a^((n-1)/q) % n+(n-1)) n=1)
  (hs:Pr s) (hsn:s ∣ n-1) (k1:b^(n-1) % n=1) (k2:Nat.gcd (b^((n-1)/s) % n+(n-1)) n=1) (hqs:q≠s) (hl:n<(q*s+1)*(q*s+1)):Pr n:=by
 apply Classical.byContradiction
 intro hno
 obtain ⟨r,hr,hrn,hrr⟩:=small_pr hn hno
 have d1:=step_dvd hn hr hrn hq hqn h1 h2
 have d2:=step_dvd hn hr hrn hs hsn k1 k2
 have hr2:=hr.1
 have hc:Nat.Coprime q s:=coprime_of hq fun hd=>by
  rcases hs.2 q hd with g | g
  ·have:=hq.1;omega
  ·exact hqs g
 have:=Nat.le_of_dvd (by omega) (hc.mul_dvd_of_dvd_of_dvd d1 d2)
 have:=Nat.mul_le_mul (show q*s+1≤r by omega) (show q*s+1≤r by omega)
 omega
def tri (n:Nat):Nat→Bool
 | 0=>true
 | k+1=>tri n k&&(Nat.ble k 1||!(Nat.beq (n % k) 0))
theorem tri_is {n:Nat}:∀ m,tri n m=true→∀ d,2≤d→d<m→n % d≠0
 | 0,_,d,_,h=>by omega
 | m+1,h,d,h2,hd=>by
  simp only [tri,Bool.and_eq_true,Bool.or_eq_true,Nat.ble_eq,Bool.not_eq_true'] at h
  by_cases e:d=m
  ·subst e
   intro h0
   rcases h.2 with g | g
   ·omega
   ·rw [h0] at g;cases g
  ·exact tri_is m h.1 d h2 (by omega)
theorem trial {n m:Nat} (hn:2≤n) (h:tri n m=true) (hm:n<m*m):Pr n:=by
 apply Classical.byContradiction
 intro hno
 obtain ⟨r,hr,hrn,hrr⟩:=small_pr hn hno
 have hrm:r<m:=by
  rcases Nat.lt_or_ge r m with g | g
  ·exact g
  ·have:=Nat.mul_le_mul g g;omega
 exact tri_is m h r hr.1 hrm (Nat.mod_eq_zero_of_dvd hrn)
def pm (n a:Nat):Nat→Nat→Nat
 | 0,_=>1 % n
 | f+1,e=>if Nat.beq (e % 2) 1 then pm n (a*a % n) f (e/2)*a % n else pm n (a*a % n) f (e/2)
theorem pm_is (n:Nat):∀ f a e,e<2^f→pm n a f e=a^e % n
 | 0,a,e,h=>by
  have:e=0:=by simpa using h
  subst this
  simp [pm]
 | f+1,a,e,h=>by
  have ih:=pm_is n f (a*a % n) (e/2) (by rw [Nat.pow_succ] at h;omega)
  have h2:(a*a % n)^(e/2) % n=(a*a)^(e/2) % n:=by rw [← Nat.pow_mod]
  have h3:(a*a)^(e/2)=a^(2*(e/2)):=by rw [Nat.pow_mul,Nat.pow_two]
  unfold pm
  rw [ih,h2,h3]
  have hd:=Nat.div_add_mod e 2
  split
  ·rename_i hb
   have hb':=Nat.eq_of_beq_eq_true hb
   rw [Nat.mod_mul_mod,← Nat.pow_succ]
   congr 2
   omega
  ·rename_i hb
   have hb':e % 2=0:=by
    have:e % 2≠1:=fun g=>hb (by rw [g];rfl)
    omega
   congr 2
   omega
theorem beq_is {a b:Nat} (h:Nat.beq a b=true):a=b:=Nat.eq_of_beq_eq_true h
theorem ble_is {a b:Nat} (h:Nat.ble a b=true):a≤b:=by rwa [Nat.ble_eq] at h
def okStep (n q a f:Nat):Bool:=Nat.ble 2 n&&Nat.ble n (2^f)&&Nat.beq ((n-1) % q) 0&&Nat.beq (pm n a f (n-1)) 1&&Nat.beq (Nat.gcd (pm n a f ((n-1)/q)+(n-1)) n) 1
theorem okStep_is {n q a f:Nat} (h:okStep n q a f=true):2≤n∧q ∣ n-1∧a^(n-1) % n=1∧Nat.gcd (a^((n-1)/q) % n+(n-1)) n=1:=by
 simp only [okStep,Bool.and_eq_true] at h
 obtain ⟨⟨⟨⟨h1,h2⟩,h3⟩,h4⟩,h5⟩:=h
 have h1:=ble_is h1
 have h2:=ble_is h2
 have h3:=beq_is h3
 have h4:=beq_is h4
 have h5:=beq_is h5
 have e1:=pm_is n f a (n-1) (by omega)
 have e2:=pm_is n f a ((n-1)/q) (Nat.lt_of_le_of_lt (Nat.div_le_self _ _) (by omega))
 exact ⟨h1,Nat.dvd_of_mod_eq_zero h3,by rw [← e1];exact h4,by rw [← e2];exact h5⟩
theorem cert1 {n q:Nat} (a f:Nat) (hq:Pr q) (h:okStep n q a f=true) (hs:Nat.ble (n+1) ((q+1)*(q+1))=true):Pr n:=by
 obtain ⟨a1,a2,a3,a4⟩:=okStep_is h
 exact pock1 a1 hq a2 a3 a4 (ble_is hs)
theorem cert2 {n q s:Nat} (a b f:Nat) (hq:Pr q) (hs:Pr s) (h:okStep n q a f=true) (k:okStep n s b f=true) (hqs:Nat.beq q s=false) (hl:Nat.ble (n+1) ((q*s+1)*(q*s+1))=true):Pr n:=by
 obtain ⟨a1,a2,a3,a4⟩:=okStep_is h
 obtain ⟨b1,b2,b3,b4⟩:=okStep_is k
 exact pock2 a1 hq a2 a3 a4 hs b2 b3 b4 (fun e=>by rw [e] at hqs;have:Nat.beq s s=true:=Nat.beq_refl s;rw [this] at hqs;cases hqs) (ble_is hl)
theorem cert0 {n:Nat} (m:Nat) (h2:Nat.ble 2 n=true) (h:tri n m=true) (hm:Nat.ble (n+1) (m*m)=true):Pr n:=trial (ble_is h2) h (ble_is hm)
theorem pr_103:Pr 103:=cert0 12 (by decide +kernel) (by decide +kernel) (by decide +kernel)
theorem pr_127:Pr 127:=cert0 13 (by decide +kernel) (by decide +kernel) (by decide +kernel)
theorem pr_991:Pr 991:=cert0 33 (by decide +kernel) (by decide +kernel) (by decide +kernel)
theorem pr_4153:Pr 4153:=cert0 66 (by decide +kernel) (by decide +kernel) (by decide +kernel)
theorem pr_430751:Pr 430751:=cert0 658 (by decide +kernel) (by decide +kernel) (by decide +kernel)
theorem pr_569003:Pr 569003:=cert0 756 (by decide +kernel) (by decide +kernel) (by decide +kernel)
theorem pr_8574133:Pr 8574133:=cert2 2 2 24 pr_991 pr_103 (by decide +kernel) (by decide +kernel) (by decide +kernel) (by decide +kernel)
theorem pr_2773320623:Pr 2773320623:=cert1 2 32 pr_569003 (by decide +kernel) (by decide +kernel)
theorem pr_72106336199:Pr 72106336199:=cert1 2 37 pr_2773320623 (by decide +kernel) (by decide +kernel)
theorem pr_1919519569386763:Pr 1919519569386763:=cert2 2 2 51 pr_8574133 pr_127 (by decide +kernel) (by decide +kernel) (by decide +kernel) (by decide +kernel)
theorem pr_31757755568855353:Pr 31757755568855353:=cert2 2 2 55 pr_430751 pr_4153 (by decide +kernel) (by decide +kernel) (by decide +kernel) (by decide +kernel)
theorem pr_75445702479781427272750846543864801:Pr 75445702479781427272750846543864801:=cert2 2 2 116 pr_1919519569386763 pr_72106336199 (by decide +kernel) (by decide +kernel) (by decide +kernel) (by decide +kernel)
theorem pr_74058212732561358302231226437062788676166966415465897661863160754340907:Pr 74058212732561358302231226437062788676166966415465897661863160754340907:=cert2 2 2 236 pr_75445702479781427272750846543864801 pr_31757755568855353 (by decide +kernel) (by decide +kernel) (by decide +kernel) (by decide +kernel)
theorem pr_57896044618658097711785492504343953926634992332820282019728792003956564819949:Pr 57896044618658097711785492504343953926634992332820282019728792003956564819949:=cert1 2 255 pr_74058212732561358302231226437062788676166966415465897661863160754340907 (by decide +kernel) (by decide +kernel)
end Pm
namespace Fl
open Pm
section
variable {p:Nat} [NeZero p]
theorem mul_assoc_ (a b c:Fin p):a*b*c=a*(b*c):=by grind
theorem mul_comm_ (a b:Fin p):a*b=b*a:=by grind
theorem mul_one_ (a:Fin p):a*1=a:=by grind
theorem one_mul_ (a:Fin p):1*a=a:=by grind
theorem mul_zero_ (a:Fin p):a*0=0:=by grind
theorem zero_mul_ (a:Fin p):0*a=0:=by grind
theorem sub_mul_one (a b:Fin p):(a-1)*b=a*b-b:=by grind
theorem sub_self_ (a:Fin p):a-a=0:=by grind
theorem neg_zero_:-(0:Fin p)=0:=by grind
theorem neg_eq_zero_ {a:Fin p} (h:-a=0):a=0:=by grind
theorem add_zero_ (a:Fin p):a+0=a:=by grind
theorem sub_of {a b e:Fin p} (h:a+b=e):a=e-b:=by grind
theorem pow_zero_ (a:Fin p):a^0=1:=by grind
theorem pow_succ_ (a:Fin p) (n:Nat):a^(n+1)=a^n*a:=by grind
theorem val_one (hp:Pr p):((1:Fin p)).val=1:=by
 show 1 % p=1
 exact Nat.mod_eq_of_lt hp.1
theorem val_pow (hp:Pr p) (x:Fin p) (n:Nat):(x^n).val=x.val^n % p:=by
 induction n with
 | zero=>rw [pow_zero_,val_one hp,Nat.pow_zero,Nat.mod_eq_of_lt hp.1]
 | succ n ih=>rw [pow_succ_,Fin.val_mul,ih,Nat.pow_succ,Nat.mod_mul_mod]
theorem ne_zero_iff {x:Fin p}:x≠0↔¬ p ∣ x.val:=by
 have hx:=x.isLt
 constructor
 ·intro h hd
  apply h
  apply Fin.ext
  rw [Fin.val_zero]
  rcases Nat.eq_zero_or_pos x.val with g | g
  ·exact g
  ·have:=Nat.le_of_dvd g hd;omega
 ·rintro h rfl
  exact h (by rw [Fin.val_zero];exact Nat.dvd_zero p)
theorem pow_one_of (hp:Pr p) {x:Fin p} (h:x≠0):x^(p-1)=1:=by
 apply Fin.ext
 rw [val_pow hp,val_one hp]
 exact fermat_one hp (ne_zero_iff.1 h)
def inv (x:Fin p):Fin p:=if x=0 then 0 else x^(p-2)
theorem mul_inv (hp:Pr p) {x:Fin p} (h:x≠0):x*inv x=1:=by
 unfold inv
 rw [if_neg h,mul_comm_,← pow_succ_,show p-2+1=p-1 by have:=hp.1;omega,pow_one_of hp h]
theorem inv_one (hp:Pr p):inv (1:Fin p)=1:=by
 have h:(1:Fin p)≠0:=by
  intro h
  have:=congrArg Fin.val h
  rw [val_one hp,Fin.val_zero] at this
  omega
 have:=mul_inv hp h
 rwa [one_mul_] at this
theorem zero_ne_one (hp:Pr p):(0:Fin p)≠1:=by
 intro h
 have:=congrArg Fin.val h
 rw [val_one hp,Fin.val_zero] at this
 omega
end
end Fl
end Go.Proofs.YtkgodlcnoenmbaaGreat
namespace Go.Proofs.YtkgodlcnoenmbaaGreat
set_option linter.unusedVariables false
set_option maxRecDepth 100000
namespace Ed
open Pm Fl
section
variable {N:Nat} [NeZero N]
def On (d x y:Fin N):Prop:=y*y-x*x=1+d*(x*x)*(y*y)
theorem mul_ne (hp:Pr N) {a b:Fin N} (ha:a≠0) (hb:b≠0):a*b≠0:=by
 intro h
 have:a*b*(inv b)=0:=by rw [h];grind
 have e:a*b*(inv b)=a:=by rw [mul_assoc_,mul_inv hp hb];grind
 exact ha (e ▸ this)
structure Full (d i:Fin N):Prop where
 pr:Pr N
 non:∀ z:Fin N,z*z≠d
 root:i*i=-1
 two:(2:Fin N)≠0
theorem sq_of (hp:Pr N) {d a b:Fin N} (hb:b≠0) (h:a*a=d*(b*b)):∃ z:Fin N,z*z=d:=by
 refine ⟨a*(inv b),?_⟩
 have hb':=mul_inv hp hb
 have:a*(inv b)*(a*(inv b))=a*a*((inv b)*(inv b)):=by grind
 rw [this,h]
 have:d*(b*b)*((inv b)*(inv b))=d*((b*(inv b))*(b*(inv b))):=by grind
 rw [this,hb']
 grind
theorem key_sq {N:Nat} [NeZero N] (d i e x1 y1 x2 y2:Fin N) (h1:y1*y1-x1*x1=1+d*(x1*x1)*(y1*y1)) (h2:y2*y2-x2*x2=1+d*(x2*x2)*(y2*y2)) (hi:i*i=-1)
  (hE:d*x1*x2*y1*y2=e) (he:e*e=1):(y1+e*i*x1)*(y1+e*i*x1)=d*(x1*y1*(y2+i*x2)*(x1*y1*(y2+i*x2))):=by
 have a1:(y1+e*i*x1)*(y1+e*i*x1)=y1*y1+(i*i)*(e*e)*(x1*x1)+2*(e*i*(x1*y1)):=by grind
 have a2:d*(x1*y1*(y2+i*x2)*(x1*y1*(y2+i*x2)))=d*(x1*x1)*(y1*y1)*(y2*y2+(i*i)*(x2*x2))+2*((d*x1*x2*y1*y2)*i*(x1*y1)):=by grind
 have a3:d*(x1*x1)*(y1*y1)*(1+d*(x2*x2)*(y2*y2))=d*(x1*x1)*(y1*y1)+(d*x1*x2*y1*y2)*(d*x1*x2*y1*y2):=by grind
 rw [a1,a2,hE,hi,he]
 rw [hE,he] at a3
 have a4:y2*y2 + -1*(x2*x2)=1+d*(x2*x2)*(y2*y2):=by grind
 rw [a4,a3]
 grind
theorem neg_sq {N:Nat} [NeZero N] (i:Fin N):(-i)*(-i)=i*i:=by grind
theorem neg_mul_add {N:Nat} [NeZero N] (y i x:Fin N):y + -i*x=y-i*x:=by grind
theorem two_mul_of {N:Nat} [NeZero N] {y i x:Fin N} (hp:y+i*x=0) (hm:y-i*x=0):2*y=0:=by
 have:2*y=(y+i*x)+(y-i*x):=by grind
 rw [this,hp,hm];grind
theorem no_one {d i x1 y1 x2 y2:Fin N} (hf:Full d i) (h1:On d x1 y1) (h2:On d x2 y2) (he:d*x1*x2*y1*y2*(d*x1*x2*y1*y2)=1):False:=by
 unfold On at h1 h2
 obtain ⟨hp,hn,hi,h2'⟩:=hf
 have n01:(0:Fin N)≠1:=(zero_ne_one hp)
 have hx1:x1≠0:=by intro h;subst h;apply n01;grind
 have hy1:y1≠0:=by intro h;subst h;apply n01;grind
 have hy2:y2≠0:=by intro h;subst h;apply n01;grind
 have hxy:x1*y1≠0:=mul_ne hp hx1 hy1
 generalize hE:d*x1*x2*y1*y2=e at he
 by_cases hpl:y2+i*x2=0
 ·by_cases hm:y2-i*x2=0
  ·exact mul_ne hp h2' hy2 (two_mul_of hpl hm)
  ·have hb:x1*y1*(y2-i*x2)≠0:=mul_ne hp hxy hm
   obtain ⟨z,hz⟩:=sq_of hp (d:=d) (a:=y1+e*(-i)*x1) hb (by rw [key_sq d (-i) e x1 y1 x2 y2 h1 h2 (by rw [neg_sq,hi]) hE he,neg_mul_add])
   exact hn z hz
 ·have hb:x1*y1*(y2+i*x2)≠0:=mul_ne hp hxy hpl
  obtain ⟨z,hz⟩:=sq_of hp (d:=d) (a:=y1+e*i*x1) hb (key_sq d i e x1 y1 x2 y2 h1 h2 hi hE he)
  exact hn z hz
theorem full_ne {d i x1 y1 x2 y2:Fin N} (hf:Full d i) (h1:On d x1 y1) (h2:On d x2 y2):1+d*x1*x2*y1*y2≠0∧1-d*x1*x2*y1*y2≠0:=by
 constructor
 ·intro h
  exact no_one hf h1 h2 (by grind)
 ·intro h
  exact no_one hf h1 h2 (by grind)
theorem zero_of (hp:Pr N) {a b:Fin N} (hb:b≠0) (h:a*b=0):a=0:=by
 have:a*b*(inv b)=a:=by rw [mul_assoc_,mul_inv hp hb];exact mul_one_ a
 rw [h] at this
 rw [← this]
 exact zero_mul_ _
theorem zaB (hp:Pr N) {a b:Fin N} (hb:b≠0):a*(inv b)*b=a:=by
 have h:=mul_inv hp hb
 have:a*(inv b)*b=a*(b*(inv b)):=by grind
 rw [this,h];exact mul_one_ a
theorem of_sub {a b:Fin N} (h:a-b=0):a=b:=by grind
theorem frac_eq (hp:Pr N) {X M U X' M' U':Fin N} (h:X*M=U) (h':X'*M'=U') (hM:M≠0) (hM':M'≠0) (he:U*M'=U'*M):X=X':=by
 have h0:(X-X')*(M*M')=0:=by
  have:(X-X')*(M*M')=(X*M)*M'-(X'*M')*M:=by grind
  rw [this,h,h',he]
  grind
 have:=zero_of hp (mul_ne hp hM hM') h0
 exact of_sub this
def addX (d x1 y1 x2 y2:Fin N):Fin N:=(x1*y2+x2*y1)*inv (1+d*x1*x2*y1*y2)
def addY (d x1 y1 x2 y2:Fin N):Fin N:=(y1*y2+x1*x2)*inv (1-d*x1*x2*y1*y2)
theorem closed {N:Nat} [NeZero N] (d x1 y1 x2 y2:Fin N) (h1:y1*y1-x1*x1=1+d*(x1*x1)*(y1*y1)) (h2:y2*y2-x2*x2=1+d*(x2*x2)*(y2*y2)) :
  (y1*y2+x1*x2)^2*(1+d*x1*x2*y1*y2)^2-(x1*y2+x2*y1)^2*(1-d*x1*x2*y1*y2)^2 =
   (1-d*x1*x2*y1*y2)^2*(1+d*x1*x2*y1*y2)^2+d*(x1*y2+x2*y1)^2*(y1*y2+x1*x2)^2:=by grind
theorem on_of {N:Nat} [NeZero N] (d X Y A B C D:Fin N) (hx:X*B=A) (hy:Y*D=C) (h:C^2*B^2-A^2*D^2=D^2*B^2+d*A^2*C^2) :
  (Y*Y-X*X-(1+d*(X*X)*(Y*Y)))*((B*D)*(B*D))=0:=by
 subst hx hy
 grind
theorem on_add {d i x1 y1 x2 y2:Fin N} (hf:Full d i) (h1:On d x1 y1) (h2:On d x2 y2):On d (addX d x1 y1 x2 y2) (addY d x1 y1 x2 y2):=by
 have hp:=hf.pr
 obtain ⟨hB,hD⟩:=full_ne hf h1 h2
 have hx:addX d x1 y1 x2 y2*(1+d*x1*x2*y1*y2)=x1*y2+x2*y1:=zaB hp hB
 have hy:addY d x1 y1 x2 y2*(1-d*x1*x2*y1*y2)=y1*y2+x1*x2:=zaB hp hD
 have hc:=closed d x1 y1 x2 y2 h1 h2
 generalize addX d x1 y1 x2 y2=X at *
 generalize addY d x1 y1 x2 y2=Y at *
 have h0:=on_of d X Y _ _ _ _ hx hy hc
 have:=zero_of hp (mul_ne hp (mul_ne hp hB hD) (mul_ne hp hB hD)) h0
 exact of_sub this
theorem assocX {N:Nat} [NeZero N] (d k x1 y1 x2 y2 x3 y3:Fin N) (hk:d*k=1) (h1:x1*x1*(y1*y1)=k*(y1*y1-x1*x1-1)) (h2:x2*x2*(y2*y2)=k*(y2*y2-x2*x2-1)) (h3:x3*x3*(y3*y3)=k*(y3*y3-x3*x3-1)) :
  ((x1*y2+x2*y1)*(1-d*x1*x2*y1*y2)*y3+x3*(1+d*x1*x2*y1*y2)*(y1*y2+x1*x2))*((1+d*x2*x3*y2*y3)*(1-d*x2*x3*y2*y3)+d*x1*y1*(x2*y3+x3*y2)*(y2*y3+x2*x3)) =
   (x1*(1+d*x2*x3*y2*y3)*(y2*y3+x2*x3)+(x2*y3+x3*y2)*(1-d*x2*x3*y2*y3)*y1)*((1+d*x1*x2*y1*y2)*(1-d*x1*x2*y1*y2)+d*(x1*y2+x2*y1)*(y1*y2+x1*x2)*x3*y3):=by
 grind
theorem assocY {N:Nat} [NeZero N] (d k x1 y1 x2 y2 x3 y3:Fin N) (hk:d*k=1) (h1:x1*x1*(y1*y1)=k*(y1*y1-x1*x1-1)) (h2:x2*x2*(y2*y2)=k*(y2*y2-x2*x2-1)) (h3:x3*x3*(y3*y3)=k*(y3*y3-x3*x3-1)) :
  ((y1*y2+x1*x2)*(1+d*x1*x2*y1*y2)*y3+(x1*y2+x2*y1)*(1-d*x1*x2*y1*y2)*x3)*((1+d*x2*x3*y2*y3)*(1-d*x2*x3*y2*y3)-d*x1*y1*(x2*y3+x3*y2)*(y2*y3+x2*x3)) =
   (y1*(y2*y3+x2*x3)*(1+d*x2*x3*y2*y3)+x1*(x2*y3+x3*y2)*(1-d*x2*x3*y2*y3))*((1+d*x1*x2*y1*y2)*(1-d*x1*x2*y1*y2)-d*(x1*y2+x2*y1)*(y1*y2+x1*x2)*x3*y3):=by
 grind
theorem d_inv {d i:Fin N} (hf:Full d i):d*(inv d)=1:=mul_inv hf.pr (fun h=>hf.non 0 (by rw [h];exact zero_mul_ _))
theorem on_k {N:Nat} [NeZero N] {d k x y:Fin N} (hk:d*k=1) (h:y*y-x*x=1+d*(x*x)*(y*y)):x*x*(y*y)=k*(y*y-x*x-1):=by
 have:k*(y*y-x*x-1)=(d*k)*(x*x*(y*y)):=by rw [h];grind
 rw [this,hk];grind
theorem glueX {N:Nat} [NeZero N] {d X u v x3 y3 A B C D:Fin N} (hX:X*(1+d*u*x3*v*y3)=u*y3+x3*v) (hu:u*B=A) (hv:v*D=C) :
  X*(B*D+d*A*C*x3*y3)=A*D*y3+x3*B*C:=by
 subst hu hv
 have:X*(B*D+d*(u*B)*(v*D)*x3*y3)=X*(1+d*u*x3*v*y3)*(B*D):=by grind
 rw [this,hX];grind
theorem glueX' {N:Nat} [NeZero N] {d X u v x1 y1 A B C D:Fin N} (hX:X*(1+d*x1*u*y1*v)=x1*v+u*y1) (hu:u*B=A) (hv:v*D=C) :
  X*(B*D+d*x1*y1*A*C)=x1*B*C+A*D*y1:=by
 subst hu hv
 have:X*(B*D+d*x1*y1*(u*B)*(v*D))=X*(1+d*x1*u*y1*v)*(B*D):=by grind
 rw [this,hX];grind
theorem glueY {N:Nat} [NeZero N] {d Y u v x3 y3 A B C D:Fin N} (hY:Y*(1-d*u*x3*v*y3)=v*y3+u*x3) (hu:u*B=A) (hv:v*D=C) :
  Y*(B*D-d*A*C*x3*y3)=C*B*y3+A*D*x3:=by
 subst hu hv
 have:Y*(B*D-d*(u*B)*(v*D)*x3*y3)=Y*(1-d*u*x3*v*y3)*(B*D):=by grind
 rw [this,hY];grind
theorem glueY' {N:Nat} [NeZero N] {d Y u v x1 y1 A B C D:Fin N} (hY:Y*(1-d*x1*u*y1*v)=y1*v+x1*u) (hu:u*B=A) (hv:v*D=C) :
  Y*(B*D-d*x1*y1*A*C)=y1*C*B+x1*A*D:=by
 subst hu hv
 have:Y*(B*D-d*x1*y1*(u*B)*(v*D))=Y*(1-d*x1*u*y1*v)*(B*D):=by grind
 rw [this,hY];grind
theorem denX {N:Nat} [NeZero N] {d u v x3 y3 A B C D:Fin N} (hu:u*B=A) (hv:v*D=C):B*D+d*A*C*x3*y3=(B*D)*(1+d*u*x3*v*y3):=by
 subst hu hv;grind
theorem denX' {N:Nat} [NeZero N] {d u v x1 y1 A B C D:Fin N} (hu:u*B=A) (hv:v*D=C):B*D+d*x1*y1*A*C=(B*D)*(1+d*x1*u*y1*v):=by
 subst hu hv;grind
theorem denY {N:Nat} [NeZero N] {d u v x3 y3 A B C D:Fin N} (hu:u*B=A) (hv:v*D=C):B*D-d*A*C*x3*y3=(B*D)*(1-d*u*x3*v*y3):=by
 subst hu hv;grind
theorem denY' {N:Nat} [NeZero N] {d u v x1 y1 A B C D:Fin N} (hu:u*B=A) (hv:v*D=C):B*D-d*x1*y1*A*C=(B*D)*(1-d*x1*u*y1*v):=by
 subst hu hv;grind
theorem add_assoc_xy {d i x1 y1 x2 y2 x3 y3:Fin N} (hf:Full d i) (h1:On d x1 y1) (h2:On d x2 y2) (h3:On d x3 y3) :
  addX d (addX d x1 y1 x2 y2) (addY d x1 y1 x2 y2) x3 y3=addX d x1 y1 (addX d x2 y2 x3 y3) (addY d x2 y2 x3 y3) ∧
  addY d (addX d x1 y1 x2 y2) (addY d x1 y1 x2 y2) x3 y3=addY d x1 y1 (addX d x2 y2 x3 y3) (addY d x2 y2 x3 y3):=by
 have o12:=on_add hf h1 h2
 have o23:=on_add hf h2 h3
 have hp:=hf.pr
 obtain ⟨hB,hD⟩:=full_ne hf h1 h2
 obtain ⟨hB',hD'⟩:=full_ne hf h2 h3
 have hu:addX d x1 y1 x2 y2*(1+d*x1*x2*y1*y2)=x1*y2+x2*y1:=zaB hp hB
 have hv:addY d x1 y1 x2 y2*(1-d*x1*x2*y1*y2)=y1*y2+x1*x2:=zaB hp hD
 have hu':addX d x2 y2 x3 y3*(1+d*x2*x3*y2*y3)=x2*y3+x3*y2:=zaB hp hB'
 have hv':addY d x2 y2 x3 y3*(1-d*x2*x3*y2*y3)=y2*y3+x2*x3:=zaB hp hD'
 generalize addX d x1 y1 x2 y2=u at *
 generalize addY d x1 y1 x2 y2=v at *
 generalize addX d x2 y2 x3 y3=u' at *
 generalize addY d x2 y2 x3 y3=v' at *
 obtain ⟨n1,n2⟩:=full_ne hf o12 h3
 obtain ⟨n3,n4⟩:=full_ne hf h1 o23
 have k1:=on_k (d_inv hf) h1
 have k2:=on_k (d_inv hf) h2
 have k3:=on_k (d_inv hf) h3
 constructor
 ·exact frac_eq hp (glueX (zaB hp n1) hu hv) (glueX' (zaB hp n3) hu' hv') (by rw [denX hu hv];exact mul_ne hp (mul_ne hp hB hD) n1) (by rw [denX' hu' hv'];exact mul_ne hp (mul_ne hp hB' hD') n3)
   (assocX d (inv d) x1 y1 x2 y2 x3 y3 (d_inv hf) k1 k2 k3)
 ·exact frac_eq hp (glueY (zaB hp n2) hu hv) (glueY' (zaB hp n4) hu' hv') (by rw [denY hu hv];exact mul_ne hp (mul_ne hp hB hD) n2) (by rw [denY' hu' hv'];exact mul_ne hp (mul_ne hp hB' hD') n4)
   (assocY d (inv d) x1 y1 x2 y2 x3 y3 (d_inv hf) k1 k2 k3)
structure Pt (d:Fin N) where
 x:Fin N
 y:Fin N
 on:On d x y
theorem Pt.ext_ {d:Fin N} {p q:Pt d} (hx:p.x=q.x) (hy:p.y=q.y):p=q:=by
 cases p;cases q
 simp at hx hy
 subst hx hy
 rfl
theorem on_zero (d:Fin N):On d 0 1:=by unfold On;grind
theorem on_neg {d x y:Fin N} (h:On d x y):On d (-x) y:=by unfold On at *;grind
def Pt.zero (d:Fin N):Pt d:=⟨0,1,on_zero d⟩
def Pt.neg {d:Fin N} (p:Pt d):Pt d:=⟨-p.x,p.y,on_neg p.on⟩
def Pt.add {d i:Fin N} (hf:Full d i) (p q:Pt d):Pt d:=⟨addX d p.x p.y q.x q.y,addY d p.x p.y q.x q.y,on_add hf p.on q.on⟩
section
variable {d i:Fin N} (hf:Full d i)
theorem Pt.add_comm (p q:Pt d):p.add hf q=q.add hf p:=by
 apply Pt.ext_
 ·show addX _ _ _ _ _=addX _ _ _ _ _
  have e:d*p.x*q.x*p.y*q.y=d*q.x*p.x*q.y*p.y:=by grind
  have e2:p.x*q.y+q.x*p.y=q.x*p.y+p.x*q.y:=by grind
  unfold addX
  rw [e,e2]
 ·show addY _ _ _ _ _=addY _ _ _ _ _
  have e:d*p.x*q.x*p.y*q.y=d*q.x*p.x*q.y*p.y:=by grind
  have e2:p.y*q.y+p.x*q.x=q.y*p.y+q.x*p.x:=by grind
  unfold addY
  rw [e,e2]
theorem Pt.add_assoc (p q r:Pt d):(p.add hf q).add hf r=p.add hf (q.add hf r):=by
 have h:=add_assoc_xy hf p.on q.on r.on
 exact Pt.ext_ h.1 h.2
theorem one_ne (hp:Pr N):(1:Fin N)≠0:=fun h=>(zero_ne_one hp) h.symm
theorem Pt.add_zero (p:Pt d):p.add hf (Pt.zero d)=p:=by
 apply Pt.ext_
 ·show addX d p.x p.y 0 1=p.x
  unfold addX
  have e:1+d*p.x*0*p.y*1=(1:Fin N):=by grind
  rw [e,Fl.inv_one hf.pr];grind
 ·show addY d p.x p.y 0 1=p.y
  unfold addY
  have e:1-d*p.x*0*p.y*1=(1:Fin N):=by grind
  rw [e,Fl.inv_one hf.pr];grind
theorem Pt.zero_add (p:Pt d):(Pt.zero d).add hf p=p:=by rw [Pt.add_comm,Pt.add_zero]
theorem Pt.add_neg (p:Pt d):p.add hf p.neg=Pt.zero d:=by
 have hp:=hf.pr
 obtain ⟨hB,hD⟩:=full_ne hf p.on (on_neg p.on)
 apply Pt.ext_
 ·show addX d p.x p.y (-p.x) p.y=0
  unfold addX
  have e:p.x*p.y + -p.x*p.y=(0:Fin N):=by grind
  rw [e];grind
 ·show addY d p.x p.y (-p.x) p.y=1
  have h:=p.on
  unfold On at h
  have e:p.y*p.y+p.x * -p.x=1-d*p.x * -p.x*p.y*p.y:=by grind
  unfold addY
  rw [e]
  exact mul_inv hp hD
theorem Pt.neg_zero:(Pt.zero d).neg=Pt.zero d:=Pt.ext_ (by show -(0:Fin N)=0;grind) rfl
theorem Pt.add_right_cancel {p q r:Pt d} (h:p.add hf r=q.add hf r):p=q:=by
 have:=congrArg (fun z=>z.add hf r.neg) h
 simpa [Pt.add_assoc,Pt.add_neg,Pt.add_zero] using this
theorem Pt.neg_unique {p q:Pt d} (h:p.add hf q=Pt.zero d):q=p.neg:=by
 have h2:q.add hf p=p.neg.add hf p:=by rw [Pt.add_comm hf q p,h,Pt.add_comm hf p.neg p,Pt.add_neg]
 exact Pt.add_right_cancel hf h2
theorem Pt.neg_add (p q:Pt d):(p.add hf q).neg=p.neg.add hf q.neg:=by
 symm
 apply Pt.neg_unique hf
 rw [Pt.add_assoc,Pt.add_comm hf p.neg q.neg,← Pt.add_assoc hf q,Pt.add_neg,Pt.zero_add,Pt.add_neg]
def Pt.mul (n:Nat) (p:Pt d):Pt d:=match n with
 | 0=>Pt.zero d
 | n+1=>(Pt.mul n p).add hf p
theorem Pt.mul_zero (p:Pt d):p.mul hf 0=Pt.zero d:=rfl
theorem Pt.mul_succ (n:Nat) (p:Pt d):p.mul hf (n+1)=(p.mul hf n).add hf p:=rfl
theorem Pt.mul_one (p:Pt d):p.mul hf 1=p:=by rw [Pt.mul_succ,Pt.mul_zero,Pt.zero_add]
theorem Pt.mul_add (m n:Nat) (p:Pt d):p.mul hf (m+n)=(p.mul hf m).add hf (p.mul hf n):=by
 induction n with
 | zero=>rw [Nat.add_zero,Pt.mul_zero,Pt.add_zero]
 | succ n ih=>rw [← Nat.add_assoc,Pt.mul_succ,ih,Pt.mul_succ,Pt.add_assoc]
theorem Pt.mul_mul (m n:Nat) (p:Pt d):p.mul hf (m*n)=(p.mul hf m).mul hf n:=by
 induction n with
 | zero=>rw [Nat.mul_zero,Pt.mul_zero,Pt.mul_zero]
 | succ n ih=>rw [Nat.mul_succ,Pt.mul_add,ih,Pt.mul_succ]
theorem Pt.mul_of_zero (n:Nat):(Pt.zero d).mul hf n=Pt.zero d:=by
 induction n with
 | zero=>rfl
 | succ n ih=>rw [Pt.mul_succ,ih,Pt.add_zero]
theorem Pt.mul_of_add (n:Nat) (p q:Pt d):(p.add hf q).mul hf n=(p.mul hf n).add hf (q.mul hf n):=by
 induction n with
 | zero=>rw [Pt.mul_zero,Pt.mul_zero,Pt.mul_zero,Pt.add_zero]
 | succ n ih =>
  rw [Pt.mul_succ,ih,Pt.mul_succ,Pt.mul_succ,Pt.add_assoc,Pt.add_assoc]
  congr 1
  rw [← Pt.add_assoc,← Pt.add_assoc,Pt.add_comm hf (q.mul hf n) p]
theorem Pt.mul_neg (n:Nat) (p:Pt d):p.neg.mul hf n=(p.mul hf n).neg:=by
 induction n with
 | zero=>rw [Pt.mul_zero,Pt.mul_zero,Pt.neg_zero]
 | succ n ih=>rw [Pt.mul_succ,ih,Pt.mul_succ,Pt.neg_add]
theorem Pt.mul_double (n:Nat) (p:Pt d):p.mul hf (2*n)=(p.mul hf n).add hf (p.mul hf n):=by
 rw [Nat.two_mul,Pt.mul_add]
theorem Pt.mul_mod {L:Nat} {p:Pt d} (h:p.mul hf L=Pt.zero d) (n:Nat):p.mul hf (n % L)=p.mul hf n:=by
 have e:=Nat.div_add_mod n L
 have:p.mul hf n=p.mul hf (L*(n/L)+n % L):=by rw [e]
 rw [this,Pt.mul_add,Pt.mul_mul,h,Pt.mul_of_zero,Pt.zero_add]
end
end
end Ed
namespace Ed
open Pm Fl
section
variable {N:Nat} [NeZero N]
structure Rep {d:Fin N} (X Y Z T:Fin N) (p:Pt d):Prop where
 z:Z≠0
 x:X=p.x*Z
 y:Y=p.y*Z
 t:T=p.x*p.y*Z
theorem sum1 (x1 y1 x2 y2 u v:Fin N):(y1*u+x1*u)*(y2*v+x2*v)-(y1*u-x1*u)*(y2*v-x2*v)=2*(u*v)*(x1*y2+x2*y1):=by grind
theorem sum2 (x1 y1 x2 y2 u v:Fin N):(y1*u+x1*u)*(y2*v+x2*v)+(y1*u-x1*u)*(y2*v-x2*v)=2*(u*v)*(y1*y2+x1*x2):=by grind
theorem sum3 (d x1 y1 x2 y2 u v:Fin N):(u+u)*v-x1*y1*u*(x2*y2*v)*(d+d)=2*(u*v)*(1-d*x1*x2*y1*y2):=by grind
theorem sum4 (d x1 y1 x2 y2 u v:Fin N):(u+u)*v+x1*y1*u*(x2*y2*v)*(d+d)=2*(u*v)*(1+d*x1*x2*y1*y2):=by grind
theorem rep1 (w u B D:Fin N):w*(u*B)*(w*D)=u*(w*D*(w*B)):=by grind
theorem rep2 (w v B D:Fin N):w*B*(w*(v*D))=v*(w*D*(w*B)):=by grind
theorem rep3 (w u v B D:Fin N):w*(u*B)*(w*(v*D))=u*v*(w*D*(w*B)):=by grind
theorem rep6 (x z:Fin N):-(x*z)=-x*z:=by grind
theorem rep7 (x y z:Fin N):-(x*y*z)=-x*y*z:=by grind
theorem den0 (d:Fin N):d*(0*0)+1=1:=by grind
theorem den1 {d y i:Fin N} (h:d*(y*y)+1=0) (hi:i*i=-1):i*i=d*(y*y):=by grind
theorem den2 {d x y:Fin N} (h:y*y-x*x=1+d*(x*x)*(y*y)):x*x*(d*(y*y)+1)=y*y-1:=by grind
theorem den3 {d x y:Fin N} (h:x*x*(d*(y*y)+1)=y*y-1):y*y-x*x=1+d*(x*x)*(y*y):=by grind
theorem den4 {a b:Fin N} (h:a*a=b*b):(a-b)*(a+b)=0:=by grind
theorem den5 {a b:Fin N} (h:a+b=0):a=-b:=by grind
theorem rep_add {d i:Fin N} (hf:Full d i) {X1 Y1 Z1 T1 X2 Y2 Z2 T2:Fin N} {p q:Pt d} (hp:Rep X1 Y1 Z1 T1 p) (hq:Rep X2 Y2 Z2 T2 q) :
  Rep (((Y1+X1)*(Y2+X2)-(Y1-X1)*(Y2-X2))*((Z1+Z1)*Z2-T1*T2*(d+d)))
   (((Z1+Z1)*Z2+T1*T2*(d+d))*((Y1+X1)*(Y2+X2)+(Y1-X1)*(Y2-X2)))
   (((Z1+Z1)*Z2-T1*T2*(d+d))*((Z1+Z1)*Z2+T1*T2*(d+d)))
   (((Y1+X1)*(Y2+X2)-(Y1-X1)*(Y2-X2))*((Y1+X1)*(Y2+X2)+(Y1-X1)*(Y2-X2))) (p.add hf q):=by
 obtain ⟨z1,rfl,rfl,rfl⟩:=hp
 obtain ⟨z2,rfl,rfl,rfl⟩:=hq
 have pr:=hf.pr
 obtain ⟨hB,hD⟩:=full_ne hf p.on q.on
 have hu:(p.add hf q).x*(1+d*p.x*q.x*p.y*q.y)=p.x*q.y+q.x*p.y:=zaB pr hB
 have hv:(p.add hf q).y*(1-d*p.x*q.x*p.y*q.y)=p.y*q.y+p.x*q.x:=zaB pr hD
 rw [sum1,sum2,sum3,sum4]
 have hz:=mul_ne pr z1 z2
 have h2:=mul_ne pr hf.two hz
 rw [← hu,← hv]
 exact ⟨mul_ne pr (mul_ne pr h2 hD) (mul_ne pr h2 hB),rep1 _ _ _ _,rep2 _ _ _ _,rep3 _ _ _ _ _⟩
theorem rep_zero (hp:Pr N) (d:Fin N):Rep 0 1 1 0 (Pt.zero d):=⟨one_ne hp,by show (0:Fin N)=0*1;grind,by show (1:Fin N)=1*1;grind,by show (0:Fin N)=0*1*1;grind⟩
theorem rep_neg {d:Fin N} {X Y Z T:Fin N} {p:Pt d} (hp:Rep X Y Z T p):Rep (-X) Y Z (-T) p.neg:=by
 obtain ⟨z,rfl,rfl,rfl⟩:=hp
 exact ⟨z,rep6 _ _,rfl,rep7 _ _ _⟩
theorem rep_inv {d i:Fin N} (hf:Full d i) {X Y Z T:Fin N} {p:Pt d} (hp:Rep X Y Z T p):X*inv Z=p.x∧Y*inv Z=p.y:=by
 obtain ⟨z,rfl,rfl,rfl⟩:=hp
 have h:=mul_inv hf.pr z
 exact ⟨by rw [mul_assoc_,h,mul_one_],by rw [mul_assoc_,h,mul_one_]⟩
theorem rep_one {d i:Fin N} (hf:Full d i) (p:Pt d):Rep p.x p.y 1 (p.x*p.y) p:=⟨one_ne hf.pr,(mul_one_ _).symm,(mul_one_ _).symm,(mul_one_ _).symm⟩
theorem den_ne {d i:Fin N} (hf:Full d i) (y:Fin N):d*(y*y)+1≠0:=by
 intro h
 by_cases hy:y=0
 ·subst hy
  exact one_ne hf.pr (by rw [← h];exact (den0 d).symm)
 ·obtain ⟨z,hz⟩:=sq_of hf.pr (d:=d) (a:=i) hy (den1 h hf.root)
  exact hf.non z hz
theorem x_of_y {d i:Fin N} (hf:Full d i) {x y:Fin N}:On d x y↔x*x=(y*y-1)*inv (d*(y*y)+1):=by
 have hn:=den_ne hf y
 have h:=mul_inv hf.pr hn
 constructor
 ·intro ho
  have e:x*x*(d*(y*y)+1)=y*y-1:=den2 ho
  rw [← e,mul_assoc_,h,mul_one_]
 ·intro he
  have e:x*x*(d*(y*y)+1)=y*y-1:=by
   rw [he,mul_assoc_,mul_comm_ (inv _),h,mul_one_]
  exact den3 e
theorem y_same {d i:Fin N} (hf:Full d i) {p q:Pt d} (h:p.y=q.y):p=q∨p=q.neg:=by
 have h1:=(x_of_y hf).1 p.on
 have h2:=(x_of_y hf).1 q.on
 rw [h,← h2] at h1
 have e:(p.x-q.x)*(p.x+q.x)=0:=den4 h1
 by_cases h0:p.x-q.x=0
 ·exact .inl (Pt.ext_ (of_sub h0) h)
 ·right
  rw [mul_comm_] at e
  exact Pt.ext_ (den5 (zero_of hf.pr h0 e)) h
end
end Ed
end Go.Proofs.YtkgodlcnoenmbaaGreat
namespace Go.Proofs.YtkgodlcnoenmbaaGreat
set_option linter.unusedVariables false
set_option maxRecDepth 100000
namespace F25519
open Pm Fl
def P:Nat:=57896044618658097711785492504343953926634992332820282019728792003956564819949
theorem prP:Pr P:=pr_57896044618658097711785492504343953926634992332820282019728792003956564819949
instance:NeZero P:=⟨by unfold P;omega⟩
section
variable {N:Nat} [NeZero N]
theorem pw_add (x:Fin N) (m n:Nat):x^(m+n)=x^m*x^n:=by
 induction n with
 | zero=>rw [Nat.add_zero,pow_zero_,mul_one_]
 | succ n ih=>rw [← Nat.add_assoc,pow_succ_,ih,pow_succ_,mul_assoc_]
theorem mul_pw (x y:Fin N) (n:Nat):(x*y)^n=x^n*y^n:=by
 induction n with
 | zero=>simp only [pow_zero_,mul_one_]
 | succ n ih=>simp only [pow_succ_,ih];grind
theorem pw_mul (x:Fin N) (m n:Nat):x^(m*n)=(x^m)^n:=by
 induction n with
 | zero=>rw [Nat.mul_zero,pow_zero_,pow_zero_]
 | succ n ih=>rw [Nat.mul_succ,pw_add,ih,pow_succ_]
theorem pw_one (x:Fin N):x^1=x:=by rw [pow_succ_,pow_zero_,one_mul_]
end
theorem mul_ne {a b:Fin P} (ha:a≠0) (hb:b≠0):a*b≠0:=Ed.mul_ne prP ha hb
theorem mul_zero_or {a b:Fin P} (h:a*b=0):a=0∨b=0:=by
 by_cases ha:a=0
 ·exact .inl ha
 ·by_cases hb:b=0
  ·exact .inr hb
  ·exact absurd h (mul_ne ha hb)
theorem sq_eq {a b:Fin P} (h:a*a=b*b):a=b∨a=-b:=by
 have:(a-b)*(a+b)=0:=by
  have e:(a-b)*(a+b)=a*a-b*b:=by grind
  rw [e,h];grind
 rcases mul_zero_or this with g | g
 ·left;grind
 ·right;grind
def K:Nat:=7237005577332262213973186563042994240829374041602535252466099000494570602493
theorem P_K:P=8*K+5:=by unfold P K;rfl
theorem half_sq {x:Fin P} (hx:x≠0):x^(4*K+2)=1∨x^(4*K+2)=-1:=by
 have h:=pow_one_of prP hx
 have e:x^(4*K+2)*x^(4*K+2)=1*1:=by
  rw [← pw_add,show 4*K+2+(4*K+2)=P-1 by rw [P_K];omega,h,mul_one_]
 exact sq_eq e
theorem half_of_sq {x z:Fin P} (hx:x≠0) (h:z*z=x):x^(4*K+2)=1:=by
 have hz:z≠0:=by rintro rfl;apply hx;rw [← h];exact zero_mul_ _
 rw [← h,mul_pw,← pw_add,show 4*K+2+(4*K+2)=P-1 by rw [P_K];omega]
 exact pow_one_of prP hz
def iV:Fin P:=⟨19681161376707505956807079304988542015446066515923890162744021073123829784752,by decide +kernel⟩
def dV:Fin P:=⟨37095705934669439343138083508754565189542113879843219016388785533085940283555,by decide +kernel⟩
theorem i_sq:iV*iV=-1:=by
 apply Fin.ext
 decide +kernel
theorem one_ne_neg:(1:Fin P)≠-1:=by
 intro h
 have:=congrArg Fin.val h
 revert this
 decide +kernel
theorem val_pm (x:Fin P) (n f:Nat) (h:n<2^f):(x^n).val=pm P x.val f n:=by
 rw [val_pow prP,pm_is P f x.val n h]
theorem K_lt:4*K+2<2^255:=by decide +kernel
theorem d_half:dV^(4*K+2)=-1:=by
 apply Fin.ext
 rw [val_pm _ _ 255 K_lt]
 decide +kernel
theorem d_ne:dV≠0:=by
 intro h
 have:=congrArg Fin.val h
 revert this
 decide +kernel
theorem two_ne:(2:Fin P)≠0:=by
 intro h
 have:=congrArg Fin.val h
 revert this
 decide +kernel
theorem d_def:121666*dV=-121665:=by
 apply Fin.ext
 decide +kernel
theorem full:Ed.Full dV iV where
 pr:=prP
 non z h:=by
  have h1:=half_of_sq d_ne h
  rw [d_half] at h1
  exact one_ne_neg h1.symm
 root:=i_sq
 two:=two_ne
def IsSq (x:Fin P):Prop:=∃ z,z*z=x
theorem isSq_iff {x:Fin P} (hx:x≠0):IsSq x↔x^(4*K+2)=1:=by
 constructor
 ·rintro ⟨z,hz⟩;exact half_of_sq hx hz
 ·intro h
  have hq:x^(2*K+1)*x^(2*K+1)=1*1:=by
   rw [← pw_add,show 2*K+1+(2*K+1)=4*K+2 by omega,h,mul_one_]
  have hz:x^(K+1)*x^(K+1)=x*x^(2*K+1):=by
   rw [← pw_add,show K+1+(K+1)=1+(2*K+1) by omega,pw_add,pw_one]
  rcases sq_eq hq with g | g
  ·exact ⟨x^(K+1),by rw [hz,g];exact mul_one_ x⟩
  ·refine ⟨x^(K+1)*iV,?_⟩
   have e:x^(K+1)*iV*(x^(K+1)*iV)=(x^(K+1)*x^(K+1))*(iV*iV):=by grind
   rw [e,hz,g,i_sq]
   grind
theorem root_alg {x:Fin P} (h:IsSq x):x^(K+1)*x^(K+1)=x∨x^(K+1)*iV*(x^(K+1)*iV)=x:=by
 by_cases hx:x=0
 ·subst hx
  left
  have:(0:Fin P)^(K+1)=0:=by rw [pow_succ_,mul_zero_]
  rw [this];exact zero_mul_ _
 ·have h:=(isSq_iff hx).1 h
  have hq:x^(2*K+1)*x^(2*K+1)=1*1:=by
   rw [← pw_add,show 2*K+1+(2*K+1)=4*K+2 by omega,h,mul_one_]
  have hz:x^(K+1)*x^(K+1)=x*x^(2*K+1):=by
   rw [← pw_add,show K+1+(K+1)=1+(2*K+1) by omega,pw_add,pw_one]
  rcases sq_eq hq with g | g
  ·left;rw [hz,g];exact mul_one_ x
  ·right
   have e:x^(K+1)*iV*(x^(K+1)*iV)=(x^(K+1)*x^(K+1))*(iV*iV):=by grind
   rw [e,hz,g,i_sq]
   grind
theorem odd_neg {x:Fin P} (hx:x≠0):(-x).val % 2=1↔x.val % 2=0:=by
 have hv:x.val≠0:=fun h=>hx (Fin.ext (by rw [h];rfl))
 have hl:=x.isLt
 have e:(-x).val=P-x.val:=by
  rw [Fin.val_neg]
  rw [if_neg hx]
 have hp:P % 2=1:=by decide +kernel
 rw [e]
 omega
theorem even_root {z w:Fin P} (h:z*z=w*w) (hz:z.val % 2=0) (hw:w.val % 2=0):z=w:=by
 rcases sq_eq h with g | g
 ·exact g
 ·by_cases h0:w=0
  ·subst h0;rw [g];grind
  ·have:=(odd_neg h0).2 hw
   rw [← g] at this
   omega
end F25519
namespace F25519
open Pm Fl Ed
def L:Nat:=7237005577332262213973186563042994240857116359379907606001950938285454250989
def c (a:Nat):Fin P:=Fin.ofNat P a
theorem c_val (a:Nat):(c a).val=a % P:=rfl
theorem c_mod (a:Nat):c (a % P)=c a:=Fin.ext (by rw [c_val,c_val,Nat.mod_mod])
theorem c_add (a b:Nat):c (a+b)=c a+c b:=Fin.ext (by rw [Fin.val_add,c_val,c_val,c_val,← Nat.add_mod])
theorem c_mul (a b:Nat):c (a*b)=c a*c b:=Fin.ext (by rw [Fin.val_mul,c_val,c_val,c_val,← Nat.mul_mod])
theorem c_P:c P=0:=Fin.ext (by rw [c_val,Nat.mod_self];rfl)
theorem c_sub {a b:Nat} (h:b≤P):c (a+(P-b))=c a-c b:=by
 have e:c (a+(P-b))+c b=c a:=by
  rw [← c_add,show a+(P-b)+b=a+P by omega,c_add,c_P];exact add_zero_ _
 exact sub_of e
theorem c_of (x:Fin P):c x.val=x:=Fin.ext (by rw [c_val,Nat.mod_eq_of_lt x.isLt])
theorem c_inj {a b:Nat} (ha:a<P) (hb:b<P) (h:c a=c b):a=b:=by
 have:=congrArg Fin.val h
 rwa [c_val,c_val,Nat.mod_eq_of_lt ha,Nat.mod_eq_of_lt hb] at this
structure Q where
 x:Nat
 y:Nat
 z:Nat
 t:Nat
def RepN (q:Q) (p:Pt dV):Prop:=Rep (c q.x) (c q.y) (c q.z) (c q.t) p
def qadd (dd:Nat) (p q:Q):Q :=
 let a:=(p.y+(P-p.x))*(q.y+(P-q.x)) % P
 let b:=(p.y+p.x)*(q.y+q.x) % P
 let e:=p.t*q.t*dd % P
 let f:=(p.z+p.z)*q.z % P
 ⟨(b+(P-a))*(f+(P-e)) % P,(f+e)*(b+a) % P,(f+(P-e))*(f+e) % P,(b+(P-a))*(b+a) % P⟩
def Q.ok (q:Q):Prop:=q.x≤P∧q.y≤P∧q.z≤P∧q.t≤P
theorem mod_le (a:Nat):a % P≤P:=Nat.le_of_lt (Nat.mod_lt _ (by unfold P;omega))
theorem qadd_ok (dd:Nat) (p q:Q):(qadd dd p q).ok:=⟨mod_le _,mod_le _,mod_le _,mod_le _⟩
theorem qadd_is {dd:Nat} (hd:c dd=dV+dV) {p q:Q} {a b:Pt dV} (hp:p.ok) (hq:q.ok) (h:RepN p a) (k:RepN q b):RepN (qadd dd p q) (a.add full b):=by
 have:=rep_add full h k
 unfold RepN qadd
 simp only [c_mod,c_mul,c_add,c_sub (mod_le _),c_sub hp.1,c_sub hq.1,hd]
 exact this
def qmul (dd:Nat) (b:Q):Nat→Nat→Q
 | 0,_=>⟨0,1,1,0⟩
 | f+1,n =>
  let h:=qmul dd b f (n/2)
  let k:=qadd dd h h
  if Nat.beq (n % 2) 1 then qadd dd k b else k
theorem qmul_ok (dd:Nat) {b:Q}:∀ f n,(qmul dd b f n).ok
 | 0,n=>⟨Nat.zero_le _,by show 1≤P;unfold P;omega,by show 1≤P;unfold P;omega,Nat.zero_le _⟩
 | f+1,n=>by
  unfold qmul
  simp only
  split
  ·exact qadd_ok _ _ _
  ·exact qadd_ok _ _ _
theorem qmul_is {dd:Nat} (hd:c dd=dV+dV) {b:Q} {p:Pt dV} (hb:b.ok) (h:RepN b p):∀ f n,n<2^f→RepN (qmul dd b f n) (p.mul full n)
 | 0,n,hn=>by
  have:n=0:=by simpa using hn
  subst this
  rw [Pt.mul_zero]
  exact rep_zero prP dV
 | f+1,n,hn=>by
  have ih:=qmul_is hd hb h f (n/2) (by rw [Nat.pow_succ] at hn;omega)
  have ok:=qmul_ok dd (b:=b) f (n/2)
  have i2:=qadd_is hd ok ok ih ih
  rw [← Pt.mul_double] at i2
  have hdm:=Nat.div_add_mod n 2
  unfold qmul
  simp only
  split
  ·rename_i g
   have g':=beq_is g
   have:=qadd_is hd (qadd_ok _ _ _) hb i2 h
   rw [← Pt.mul_succ] at this
   rwa [show 2*(n/2)+1=n by omega] at this
  ·rename_i g
   have g':n % 2≠1:=fun e=>g (by rw [e];rfl)
   rwa [show 2*(n/2)=n by omega] at i2
def bX:Nat:=15112221349535400772501151409588531511454012693041857206046113283949847762202
def bY:Nat:=46316835694926478169428394003475163141307993866256225615783033603165251855960
theorem base_on:On dV (c bX) (c bY):=by
 unfold On
 apply Fin.ext
 decide +kernel
def base:Pt dV:=⟨c bX,c bY,base_on⟩
def bQ:Q:=⟨bX,bY,1,bX*bY % P⟩
theorem bQ_ok:bQ.ok:=⟨by decide +kernel,by decide +kernel,by decide +kernel,mod_le _⟩
theorem bQ_is:RepN bQ base:=by
 have h:=rep_one full base
 unfold RepN bQ
 simp only [c_mod,c_mul]
 exact h
def dN:Nat:=16295367250680780974490674513165176452449235426866156013048779062215315747161
theorem dN_is:c dN=dV+dV:=Fin.ext (by decide +kernel)
theorem L_lt:L<2^253:=by decide +kernel
def zeroB:Bool:=let q:=qmul dN bQ 253 L;Nat.beq (q.x % P) 0&&Nat.beq ((q.y+(P-q.z)) % P) 0
theorem zeroB_is:zeroB=true:=by decide +kernel
theorem c_eq_zero {a:Nat} (h:a % P=0):c a=0:=Fin.ext (by rw [c_val,h];rfl)
theorem base_order:base.mul full L=Pt.zero dV:=by
 have h:=qmul_is dN_is bQ_ok bQ_is 253 L L_lt
 have ok:=qmul_ok dN (b:=bQ) 253 L
 have hz:=zeroB_is
 unfold zeroB at hz
 simp only [Bool.and_eq_true] at hz
 generalize qmul dN bQ 253 L=q at *
 have h1:=c_eq_zero (beq_is hz.1)
 have h2:=c_eq_zero (beq_is hz.2)
 rw [c_sub ok.2.2.1] at h2
 have h3:=of_sub h2
 obtain ⟨z,ex,ey,-⟩:=h
 rw [h1] at ex
 rw [h3] at ey
 have e0:(base.mul full L).x=0:=zero_of prP z ex.symm
 have e1:((base.mul full L).y-1)*c q.z=0:=by
  have e2:((base.mul full L).y-1)*c q.z=(base.mul full L).y*c q.z-c q.z:=sub_mul_one _ _
  rw [e2,← ey];exact sub_self_ _
 exact Pt.ext_ e0 (of_sub (zero_of prP z e1))
def encN (p:Pt dV):Nat:=p.y.val+p.x.val % 2*57896044618658097711785492504343953926634992332820282019728792003956564819968
theorem P_lt:P<57896044618658097711785492504343953926634992332820282019728792003956564819968:=by unfold P;omega
theorem encN_inj {p q:Pt dV} (h:encN p=encN q):p=q:=by
 unfold encN at h
 have h1:=p.y.isLt
 have h2:=q.y.isLt
 have h3:=P_lt
 have hy:p.y.val=q.y.val:=by omega
 have hx:p.x.val % 2=q.x.val % 2:=by omega
 rcases y_same full (Fin.ext hy) with g | g
 ·exact g
 ·by_cases h0:q.x=0
  ·rw [g]
   apply Pt.ext_
   ·show -q.x=q.x
    rw [h0];exact neg_zero_
   ·rfl
  ·have e:p.x=-q.x:=by rw [g];rfl
   have:=odd_neg h0
   rw [← e] at this
   omega
def ptOf (r y:Fin P) (h:On dV r y) (s:Bool):Pt dV:=⟨if s then -r else r,y,by cases s;exact h;exact on_neg h⟩
theorem enc_ptOf {r y:Fin P} (h:On dV r y) (he:r.val % 2=0) (s:Bool) (hs:r=0→s=false):encN (ptOf r y h s)=y.val+(if s then 1 else 0)*57896044618658097711785492504343953926634992332820282019728792003956564819968:=by
 unfold encN ptOf
 cases s
 ·simp [he]
 ·have h0:r≠0:=fun g=>by have:=hs g;cases this
  have:=(odd_neg h0).2 he
  simp [this]
theorem enc_lt (p:Pt dV):encN p<2*57896044618658097711785492504343953926634992332820282019728792003956564819968:=by
 unfold encN
 have h1:=p.y.isLt
 have h3:=P_lt
 have:=Nat.mod_lt p.x.val (show 0<2 by omega)
 omega
theorem enc_iff (y:Nat) (s:Bool) (hy:y<57896044618658097711785492504343953926634992332820282019728792003956564819968) :
  (∃ p,encN p=y+(if s then 1 else 0)*57896044618658097711785492504343953926634992332820282019728792003956564819968) ↔
   y<P∧∃ r:Fin P,r.val % 2=0∧r*r=(c y*c y-1)*inv (dV*(c y*c y)+1)∧(r=0→s=false):=by
 constructor
 ·rintro ⟨p,hp⟩
  have h1:=p.y.isLt
  have h3:=P_lt
  unfold encN at hp
  have hm:=Nat.mod_lt p.x.val (show 0<2 by omega)
  have hyv:p.y.val=y:=by cases s <;> simp at hp <;> omega
  have hxs:p.x.val % 2=if s then 1 else 0:=by cases s <;> simp at hp ⊢ <;> omega
  have hyP:y<P:=by omega
  have hyc:c y=p.y:=Fin.ext (by rw [c_val,Nat.mod_eq_of_lt hyP,hyv])
  have ho:=(x_of_y full).1 p.on
  rw [hyc]
  refine ⟨hyP,?_⟩
  by_cases h0:p.x=0
  ·refine ⟨p.x,by rw [h0];rfl,ho,fun _=>?_⟩
   cases s
   ·rfl
   ·rw [h0] at hxs;exact absurd hxs (by decide)
  ·cases s
   ·exact ⟨p.x,by simpa using hxs,ho,fun _=>rfl⟩
   ·refine ⟨-p.x,?_,by rw [neg_sq];exact ho,fun g=>?_⟩
    ·have:=odd_neg h0
     have h4:p.x.val % 2=1:=by simpa using hxs
     have h5:¬ (-p.x).val % 2=1:=fun g=>by have:=this.1 g;omega
     omega
    ·exact absurd (neg_eq_zero_ g) h0
 ·rintro ⟨hyP,r,he,hr,hs⟩
  have ho:=(x_of_y full).2 hr
  refine ⟨ptOf r (c y) ho s,?_⟩
  rw [enc_ptOf ho he s hs,c_val,Nat.mod_eq_of_lt hyP]
end F25519
end Go.Proofs.YtkgodlcnoenmbaaGreat
